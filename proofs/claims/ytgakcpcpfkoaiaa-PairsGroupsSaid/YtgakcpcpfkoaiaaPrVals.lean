/-
  pairs.ownValues: a new list of the values.
-/
import Derived.Test.YtgakcpcpfkoaiaaPrGrp
import Derived.Test.YtgakcpcpfkoaiaaPrRef
namespace Go.Proofs.Ytgakcpcpfkoaiaa.Pr
open Go.ChangeShapes Go.WideShapes Go.ChangeAt Go.RowKit Go.Sort Go.Shelf Go.Proofs Go.Proofs.Ytgakcpcpfkoaiaa.Ov Go.Proofs.Ytgakcpcpfkoaiaa.Va Go.Proofs.Ytgakcpcpfkoaiaa.St

/-- A value's cells; a list's. -/
def wcl (v : Va) : List Value := [.int .i64 v.k, .int .i64 v.n, .string (tx v.s), .int .i64 v.x, .int .i64 v.y]
def wcells (l : List Va) : List Value := l.flatMap wcl
def vz0 : Va := ⟨0, 0, [], 0, 0⟩
def vd (l : List Va) (i : Nat) : Va := (l[i]?).getD vz0
theorem wcells_len (l : List Va) : (wcells l).length = l.length * 5 := by
  induction l with
  | nil => rfl
  | cons p t ih => show (wcl p ++ wcells t).length = _; rw [List.length_append, ih, List.length_cons]; show 5 + _ = _; omega
theorem wcells_at (l : List Va) (i j : Nat) (hi : i < l.length) (hj : j < 5) : (wcells l)[i * 5 + j]? = (wcl (vd l i))[j]? := by
  induction l generalizing i with
  | nil => simp at hi
  | cons n t ih =>
    show (wcl n ++ wcells t)[i * 5 + j]? = _
    cases i with
    | zero => rw [Nat.zero_mul, Nat.zero_add, List.getElem?_append_left (by show j < 5; exact hj)]; rfl
    | succ i =>
      rw [List.getElem?_append_right (by show 5 ≤ _; omega)]
      show (wcells t)[(i + 1) * 5 + j - 5]? = (wcl (vd t i))[j]?
      rw [show (i + 1) * 5 + j - 5 = i * 5 + j by omega]
      exact ih i (by simpa using hi)
theorem wcells_set (l : List Va) (j : Nat) (q : Va) (h : j < l.length) : wcells (l.set j q) =
    (((((wcells l).set (j * 5) (.int .i64 q.k)).set (j * 5 + 1) (.int .i64 q.n)).set (j * 5 + 2) (.string (tx q.s))).set (j * 5 + 3) (.int .i64 q.x)).set (j * 5 + 4) (.int .i64 q.y) := by
  induction l generalizing j with
  | nil => exact absurd h (Nat.not_lt_zero _)
  | cons n t ih =>
    cases j with
    | zero => rfl
    | succ j =>
      have e : ∀ l : List Va, wcells (n :: l) = wcl n ++ wcells l := fun _ => rfl
      rw [List.set_cons_succ, e, e, ih j (by simpa using h), show (j + 1) * 5 = 5 + j * 5 by omega]
      simp only [Nat.add_assoc]
      rw [set_right _ _ 5 _ rfl, set_right _ _ 5 _ rfl, set_right _ _ 5 _ rfl, set_right _ _ 5 _ rfl, set_right _ _ 5 _ rfl]
theorem wcells_zero (n : Nat) : (madeCells (Value.agg (wcl vz0).toArray).cells (n * 5)).toList = wcells (List.replicate n vz0) := by
  apply List.ext_getElem?
  intro t
  by_cases ht : t < n * 5
  · have e : t = t / 5 * 5 + t % 5 := by omega
    have hm : t % 5 < 5 := Nat.mod_lt _ (by omega)
    have hl : (wcells (List.replicate n vz0))[t]? = (wcl vz0)[t % 5]? := by
      conv => lhs; rw [e]
      rw [wcells_at _ _ _ (by rw [List.length_replicate]; omega) hm]
      unfold vd
      rw [List.getElem?_replicate, if_pos (by omega)]; rfl
    rw [hl]
    have hz : (Value.agg (wcl vz0).toArray).cells = (wcl vz0).toArray := rfl
    rw [hz, Array.getElem?_toList]
    unfold madeCells
    rw [Array.getElem?_map, Array.getElem?_range, if_pos ht]
    show some ((wcl vz0).toArray[t % 5]!) = _
    have h2 : t % 5 < (wcl vz0).length := hm
    rw [List.getElem?_eq_getElem h2]
    simp [h2]
  · rw [List.getElem?_eq_none (by rw [Array.length_toList, size_madeCells]; omega), List.getElem?_eq_none (by rw [wcells_len, List.length_replicate]; omega)]
/-- These values lie from a block's beginning on. -/
def Vls (w : World) (g : Nat) (l : List Va) : Prop := ∀ i j v, i < l.length → (wcl (vd l i))[j]? = some v → w.cell? ⟨g, i * 5 + j, none⟩ = some v
theorem vls_own {w : World} {B g c n : Nat} {l : List Va} (h : w.ownsRow B 42 5 (.slice (some ⟨g, 0, none⟩) n c) n (wcells l)) (hn : n = l.length) : Vls w g l := fun i j v hi hv => by
  subst hn
  have hj : j < 5 := (List.getElem?_eq_some_iff.1 hv).1
  rw [h.cellAt _ (by omega), wcells_at l i j hi hj, hv]
theorem own_set5 {lo : Nat} {W w : World} {B g c n o : Nat} {l : List Va} (h : w.ownsRow B 42 5 (.slice (some ⟨g, 0, none⟩) n c) n (wcells l)) (hb : Below lo W w) (hlo : lo ≤ B) (j : Nat) (hj : j < l.length) (ho : o = j * 5) (q : Va) {m : List Va} (hm : l.set j q = m) :
    Hid ((((((w.setCell ⟨g, o, none⟩ (.int .i64 q.k)).setCell ⟨g, o + 1, none⟩ (.int .i64 q.n)).setCell ⟨g, o + 2, none⟩ (.string (tx q.s))).setCell ⟨g, o + 3, none⟩ (.int .i64 q.x)).setCell ⟨g, o + 4, none⟩ (.int .i64 q.y)).ownsRow B 42 5 (.slice (some ⟨g, 0, none⟩) n c) n (wcells m)) ∧
    Hid (Below lo W (((((w.setCell ⟨g, o, none⟩ (.int .i64 q.k)).setCell ⟨g, o + 1, none⟩ (.int .i64 q.n)).setCell ⟨g, o + 2, none⟩ (.string (tx q.s))).setCell ⟨g, o + 3, none⟩ (.int .i64 q.x)).setCell ⟨g, o + 4, none⟩ (.int .i64 q.y))) := by
  subst hm; subst ho
  have hg := (h.lt g rfl).1
  have hl : lo ≤ g := by omega
  refine ⟨?_, (((((hb.setCell (p := ⟨g, _, none⟩) hl _).setCell (p := ⟨g, _, none⟩) hl _).setCell (p := ⟨g, _, none⟩) hl _).setCell (p := ⟨g, _, none⟩) hl _).setCell (p := ⟨g, _, none⟩) hl _)⟩
  rw [wcells_set l j q hj]
  exact (((((h.stored _ _).1.stored _ _).1.stored _ _).1.stored _ _).1.stored _ _).1
/-- So far. -/
def mv (m : List Pr) (i : Nat) : List Va := (m.take i).map (·.2) ++ List.replicate (m.length - i) vz0
theorem mv_len (m : List Pr) (i : Nat) (h : i ≤ m.length) : (mv m i).length = m.length := by
  unfold mv; rw [List.length_append, List.length_map, List.length_take, List.length_replicate]; omega
theorem mv_step (m : List Pr) (i : Nat) (h : i < m.length) : (mv m i).set i (pd m i).2 = mv m (i + 1) := by
  unfold mv
  have e : ((m.take i).map (·.2)).length = i := by rw [List.length_map, List.length_take]; omega
  rw [List.set_append_right _ _ (by omega), e, Nat.sub_self, show m.length - i = (m.length - (i + 1)) + 1 by omega, List.replicate_succ, List.set_cons_zero, take_snoc m i h, List.map_append, List.append_assoc]
  rfl
theorem infoW : (Try.prog.info? 42).map (fun i => (i.zero, i.size, i.bytes)) = some (some (.agg (wcl vz0).toArray), 5, 48) := by kernel_rfl
set_option maxRecDepth 100000 in
set_option maxHeartbeats 2000000 in
theorem ownValues_any (B O c : Nat) (m : List Pr) (w : World) (h : Prs w (some ⟨B, O, none⟩) m) (hl : m.length ≤ 100000) (hX : Tx m) :
    Calls Try.prog 38 #[.slice (some ⟨B, O, none⟩) m.length c] w fun e w' => ∃ g, e = .returned (.slice (some ⟨g, 0, none⟩) m.length m.length) ∧ Vls w' g (m.map (·.2)) ∧ Below w.heap.size w w' := by
  have HN := Lib.hid h; have HX := Lib.hid hX
  clear h hX
  obtain ⟨iV, hi0, hi1, hi2, hi3⟩ := info_parts infoW
  obtain ⟨w1, hmk, hown, hgr⟩ := run_make_full (P := Try.prog) w w.heap.size 38 42 iV (.agg (wcl vz0).toArray) 5 Try.underlying38 hi0 hi1 hi2 .i64 .i64 m.length (by rw [hi3]; omega) (by unfold maxLen; omega) (Nat.le_refl _)
  rw [wcells_zero] at hown
  have HO : Hid (w1.ownsRow w.heap.size 42 5 (.slice (some ⟨w.heap.size, 0, none⟩) m.length m.length) m.length (wcells (mv m 0))) := by unfold mv; exact hown
  have HB := Lib.hid ((Below.refl w.heap.size w).grown hgr (Nat.le_refl _) (by simp))
  clear hi0 hi1 hi2 hi3 hown hgr
  go_enter Try.func38, Try.ntmps38
  go_wp2_with (fail)
  clear hmk
  go_loopg [11] m.length (fun kx s11 wr => ∃ i : Nat, i ≤ m.length ∧ m.length - i ≤ kx ∧ s11 = .int .i64 i ∧ Hid (wr.ownsRow w.heap.size 42 5 (.slice (some ⟨w.heap.size, 0, none⟩) m.length m.length) m.length (wcells (mv m i))) ∧ Hid (Below w.heap.size w wr))
  case atStart => exact ⟨0, Nat.zero_le _, by omega, rfl, HO, HB⟩
  case round =>
    clear HO HB
    obtain ⟨i, hi, hkx, rfl, HO, HB⟩ := hrel
    by_cases hlt : i < m.length
    · have hltz : (i : Int) < (m.length : Int) := by omega
      have hN : Prs wr (some ⟨B, O, none⟩) m := HN.out.next HB.out
      have k0 := hN.cell (i := i) hlt 0 _ rfl
      have k1 := hN.cell (i := i) hlt 1 _ rfl
      have k2 := hN.cell (i := i) hlt 2 _ rfl
      have k3 := hN.cell (i := i) hlt 3 _ rfl
      have k4 := hN.cell (i := i) hlt 4 _ rfl
      have k5 := hN.cell (i := i) hlt 5 _ rfl
      rw [Nat.add_zero] at k0
      have HT := Lib.hid (HX.out _ (pd_mem hlt))
      have HS := Lib.hid (mv_step m i hlt)
      have HL := Lib.hid (mv_len m i hi)
      clear hN
      generalize pd m i = p at *
      obtain ⟨pk, ⟨vk, vn, vs, vx, vy⟩⟩ := p
      dsimp only at k0 k1 k2 k3 k4 k5 HT HS
      go_upto_region 5 with fail
      have HP := Lib.hid (box6 wr 44 (.string (tx pk)) (.int .i64 vk) (.int .i64 vn) (.string (tx vs)) (.int .i64 vx) (.int .i64 vy))
      have HB1 := Lib.hid (below_obj HB.out (.cells #[.string (tx pk), .int .i64 vk, .int .i64 vn, .string (tx vs), .int .i64 vx, .int .i64 vy] 44))
      have HO1 := Lib.hid (HO.out.alloc (.cells #[.string (tx pk), .int .i64 vk, .int .i64 vn, .string (tx vs), .int .i64 vx, .int .i64 vy] 44))
      clear k0 k1 k2 k3 k4 k5 HO HB
      generalize wr.alloc (.cells #[.string (tx pk), .int .i64 vk, .int .i64 vn, .string (tx vs), .int .i64 vx, .int .i64 vy] 44) = w2 at *
      have p1 := HP.out.c 1 _ rfl
      have p2 := HP.out.c 2 _ rfl
      have p3 := HP.out.c 3 _ rfl
      have p4 := HP.out.c 4 _ rfl
      have p5 := HP.out.c 5 _ rfl
      clear HP
      have hov := ownValue_any vk vn vx vy (tx vs) w2 (by rw [tx_size]; have := HT.out.2; omega)
      go_wp2_with (fail)
      refine hov.mono ?_
      rintro e w3 ⟨rfl, hb⟩
      have HB3 := Lib.hid (Below.next HB1.out hb)
      have HO3 := Lib.hid (own_keep HO1.out hb)
      clear hov hb p1 p2 p3 p4 p5 HB1 HO1
      have hV := vls_own HO3.out HL.out.symm
      have hlm := HL.out
      rw [← hlm] at hlt
      obtain ⟨u0, d0, f0⟩ : ∃ u, w3.cell? ⟨w.heap.size, i * 5, none⟩ = some u ∧ w3.frozen? ⟨w.heap.size, i * 5, none⟩ = false := ⟨_, by have := hV i 0 _ (by omega) rfl; rwa [Nat.add_zero] at this, HO3.out.frozenAt _⟩
      obtain ⟨u1, d1, f1⟩ : ∃ u, w3.cell? ⟨w.heap.size, i * 5 + 1, none⟩ = some u ∧ w3.frozen? ⟨w.heap.size, i * 5 + 1, none⟩ = false := ⟨_, hV i 1 _ (by omega) rfl, HO3.out.frozenAt _⟩
      obtain ⟨u2, d2, f2⟩ : ∃ u, w3.cell? ⟨w.heap.size, i * 5 + 2, none⟩ = some u ∧ w3.frozen? ⟨w.heap.size, i * 5 + 2, none⟩ = false := ⟨_, hV i 2 _ (by omega) rfl, HO3.out.frozenAt _⟩
      obtain ⟨u3, d3, f3⟩ : ∃ u, w3.cell? ⟨w.heap.size, i * 5 + 3, none⟩ = some u ∧ w3.frozen? ⟨w.heap.size, i * 5 + 3, none⟩ = false := ⟨_, hV i 3 _ (by omega) rfl, HO3.out.frozenAt _⟩
      obtain ⟨u4, d4, f4⟩ : ∃ u, w3.cell? ⟨w.heap.size, i * 5 + 4, none⟩ = some u ∧ w3.frozen? ⟨w.heap.size, i * 5 + 4, none⟩ = false := ⟨_, hV i 4 _ (by omega) rfl, HO3.out.frozenAt _⟩
      rw [hlm] at hlt
      clear hV hlm
      go_wp2_with (fail)
      go_roundg (m.length - (i + 1))
      case measure => omega
      case rel => exact ⟨i + 1, by omega, Nat.le_refl _, by go_num, own_set5 HO3.out HB3.out (Nat.le_refl _) i (by rw [HL.out]; exact hlt) (by omega) ⟨vk, vn, vs, vx, vy⟩ HS.out⟩
    · obtain rfl : i = m.length := by omega
      have hltz : ¬ (m.length : Int) < (m.length : Int) := by omega
      go_wp2_with (fail)
      go_ret
      refine ⟨_, rfl, ?_, HB.out⟩
      have e : mv m m.length = m.map (·.2) := by unfold mv; rw [List.take_length, Nat.sub_self]; simp
      have := HO.out
      rw [e] at this
      exact vls_own this (by rw [List.length_map])
end Go.Proofs.Ytgakcpcpfkoaiaa.Pr

/-
  Pairs in memory: anyone's, and a list of the call's own; byKey; the stable sort of a list of the call's own.
-/
import Derived.Test.YtgakcpcpfkoaiaaOvBlk
import Derived.Test.YtgakcpcpfkoaiaaPrMath
import Derived.Test.YtgakcpcpfkoaiaaStSort
import Derived.Test.YtgakcpcpfkoaiaaVaSmall
import Derived.Lib.OwnBridge
import Derived.Deep.Heap
namespace Go.Proofs.Ytgakcpcpfkoaiaa.Pr
open Go.ChangeShapes Go.WideShapes Go.ChangeAt Go.RowKit Go.Sort Go.Proofs Go.Proofs.Ytgakcpcpfkoaiaa.Ov Go.Proofs.Ytgakcpcpfkoaiaa.Va Go.Proofs.Ytgakcpcpfkoaiaa.St

/-- A pair's cells. -/
def pcl (p : Pr) : List Value := [.string (tx p.1), .int .i64 p.2.k, .int .i64 p.2.n, .string (tx p.2.s), .int .i64 p.2.x, .int .i64 p.2.y]
def pcells (l : List Pr) : List Value := l.flatMap pcl
theorem pcl_len (p : Pr) : (pcl p).length = 6 := rfl
theorem pcl_one (p : Pr) : ∀ u ∈ pcl p, u.oneCell' = true := by
  intro u hu
  unfold pcl at hu
  simp only [List.mem_cons, List.not_mem_nil, or_false] at hu
  rcases hu with rfl | rfl | rfl | rfl | rfl | rfl <;> rfl
theorem pcells_snoc (l : List Pr) (p : Pr) : pcells (l ++ [p]) = pcells l ++ pcl p := by
  unfold pcells; rw [List.flatMap_append]; simp
theorem pcells_append (l m : List Pr) : pcells (l ++ m) = pcells l ++ pcells m := by
  unfold pcells; rw [List.flatMap_append]
theorem pcells_len (l : List Pr) : (pcells l).length = l.length * 6 := by
  induction l with
  | nil => rfl
  | cons p t ih => show (pcl p ++ pcells t).length = _; rw [List.length_append, ih, pcl_len, List.length_cons]; omega
theorem pcells_one (l : List Pr) : ∀ u ∈ pcells l, u.oneCell' = true := by
  intro u hu
  obtain ⟨p, _, h⟩ := List.mem_flatMap.1 hu
  exact pcl_one p u h
def pd (l : List Pr) (i : Nat) : Pr := (l[i]?).getD pz
theorem arr_at (l : List Pr) (i : Nat) : l.toArray[i]! = pd l i := by
  show l.toArray[i]! = (l[i]?).getD pz
  rw [getElem!_def]
  simp only [List.getElem?_toArray]
  cases l[i]? <;> rfl
theorem pd_at {l : List Pr} {i : Nat} (h : i < l.length) : pd l i = l[i] := by unfold pd; simp [h]
theorem pd_mem {l : List Pr} {i : Nat} (h : i < l.length) : pd l i ∈ l := by rw [pd_at h]; exact List.getElem_mem h
theorem pcells_at (l : List Pr) (i j : Nat) (hi : i < l.length) (hj : j < 6) : (pcells l)[i * 6 + j]? = (pcl (pd l i))[j]? := by
  induction l generalizing i with
  | nil => simp at hi
  | cons n t ih =>
    show (pcl n ++ pcells t)[i * 6 + j]? = _
    cases i with
    | zero =>
      rw [Nat.zero_mul, Nat.zero_add, List.getElem?_append_left (by show j < 6; exact hj)]; rfl
    | succ i =>
      rw [List.getElem?_append_right (by show 6 ≤ _; omega)]
      show (pcells t)[(i + 1) * 6 + j - 6]? = (pcl (pd t i))[j]?
      rw [show (i + 1) * 6 + j - 6 = i * 6 + j by omega]
      exact ih i (by simpa using hi)
/-- These pairs lie behind a pointer. -/
def Prs (w : World) (p : Option Addr) (l : List Pr) : Prop :=
  0 < l.length → ∃ B O, p = some ⟨B, O, none⟩ ∧ ∀ i j v, i < l.length → (pcl (pd l i))[j]? = some v → w.cell? ⟨B, O + i * 6 + j, none⟩ = some v
/-- A list of the call's own: nil, or in a block of its own. -/
def OwnL (B : Nat) (w : World) (p : Option Addr) (l : List Pr) : Prop :=
  (l = [] ∧ p = none) ∨ ∃ g, p = some ⟨g, 0, none⟩ ∧ B ≤ g ∧ g < w.heap.size ∧ HoldsK pcl 6 w g 0 l.toArray
section
variable {w w' : World} {p : Option Addr} {l : List Pr} {B : Nat}
theorem Prs.nil (w : World) (p : Option Addr) : Prs w p [] := fun h => absurd h (Nat.lt_irrefl 0)
theorem Prs.next (h : Prs w p l) (k : Below w.heap.size w w') : Prs w' p l := fun hn => by
  obtain ⟨B, O, e, hc⟩ := h hn
  exact ⟨B, O, e, fun i j v hi hv => (k.cell (p := ⟨B, O + i * 6 + j, none⟩) (block_lt_of_cell (hc i j v hi hv))).trans (hc i j v hi hv)⟩
theorem Prs.cell {G O : Nat} (h : Prs w (some ⟨G, O, none⟩) l) {i : Nat} (hi : i < l.length) (j : Nat) (v : Value) (hv : (pcl (pd l i))[j]? = some v) : w.cell? ⟨G, O + i * 6 + j, none⟩ = some v := by
  obtain ⟨B', O', e, hc⟩ := h (by omega)
  simp only [Option.some.injEq, Addr.mk.injEq, and_true] at e
  obtain ⟨rfl, rfl⟩ := e
  exact hc i j v hi hv
theorem Prs.shape (h : Prs w p l) (hl : 0 < l.length) : ∃ G O, p = some ⟨G, O, none⟩ := by
  obtain ⟨G, O, e, _⟩ := h hl
  exact ⟨G, O, e⟩
theorem holds_cell {g : Nat} (h : HoldsK pcl 6 w g 0 l.toArray) {i j : Nat} {v : Value} (hi : i < l.length) (hv : (pcl (pd l i))[j]? = some v) : w.cell? ⟨g, i * 6 + j, none⟩ = some v ∧ w.frozen? ⟨g, i * 6 + j, none⟩ = false := by
  obtain ⟨hj, e⟩ := List.getElem?_eq_some_iff.1 hv
  have hj' : j < 6 := hj
  have hc := h.cell (i := i) (c := j) (by simpa using hi) hj'
  rw [arr_at, Nat.zero_add, getElem!_pos (pcl (pd l i)) j hj, e] at hc
  exact hc
theorem OwnL.prs (h : OwnL B w p l) : Prs w p l := fun hl => by
  rcases h with ⟨rfl, _⟩ | ⟨g, rfl, _, _, hh⟩
  · exact absurd hl (Nat.lt_irrefl 0)
  · exact ⟨g, 0, rfl, fun i j v hi hv => by rw [Nat.zero_add]; exact (holds_cell hh hi hv).1⟩
theorem holds_next {g : Nat} {d : Array Pr} (h : HoldsK pcl 6 w g 0 d) (hg : g < w.heap.size) (k : Below w.heap.size w w') : HoldsK pcl 6 w' g 0 d := fun j hj =>
  ⟨(k.cell (p := ⟨g, 0 + j, none⟩) hg).trans (h j hj).1, (k.frozen (p := ⟨g, 0 + j, none⟩) hg).trans (h j hj).2⟩
theorem OwnL.next (h : OwnL B w p l) (k : Below w.heap.size w w') : OwnL B w' p l := by
  rcases h with h | ⟨g, e, hB, hg, hh⟩
  · exact .inl h
  · exact .inr ⟨g, e, hB, Nat.lt_of_lt_of_le hg k.size, holds_next hh hg k⟩
theorem OwnL.lower (h : OwnL B w p l) {C : Nat} (hc : C ≤ B) : OwnL C w p l := by
  rcases h with h | ⟨g, e, hB, hg, hh⟩
  · exact .inl h
  · exact .inr ⟨g, e, Nat.le_trans hc hB, hg, hh⟩
theorem holds_of_own {n : Nat} {g c : Nat} (h : w.ownsRow B 44 6 (.slice (some ⟨g, 0, none⟩) n c) n (pcells l)) (hn : n = l.length) : B ≤ g ∧ g < w.heap.size ∧ HoldsK pcl 6 w g 0 l.toArray := by
  subst hn
  have hg : B ≤ g ∧ g < w.heap.size := h.lt g rfl
  refine ⟨hg.1, hg.2, fun t ht => ?_⟩
  rw [size_flatK] at ht
  have ht' : t < l.length * 6 := by simpa using ht
  have hi : t / 6 < l.length := by omega
  have hj : t % 6 < 6 := Nat.mod_lt _ (by omega)
  have e : t = t / 6 * 6 + t % 6 := by omega
  rw [get_flatK _ _ _ _ ht, arr_at, Nat.zero_add]
  refine ⟨?_, ?_⟩
  · rw [h.cellAt t (by omega)]
    conv => lhs; rw [e]
    rw [pcells_at l _ _ hi hj, getElem!_pos (pcl (pd l (t / 6))) (t % 6) hj]
    exact List.getElem?_eq_getElem hj
  · rcases h.2 with ⟨e0, _⟩ | ⟨g', cap, cur, e0, _, hh, _⟩
    · cases e0
    · injection e0 with e1 _ _
      injection e1 with e1
      injection e1 with e1
      subst e1
      simp [World.frozen?, hh]
theorem below_sort {C : Nat} {w0 : World} {g n : Nat} {d : Array Pr} {os : Array Obj} (h : Below C w0 w) (hg : C ≤ g) (hC : C ≤ w.heap.size) : Below C w0 (sortWorldK pcl 6 w g 0 n d os) := by
  have h1 : Below C w0 (putRowK pcl 6 (Sort.ahead w n) g 0 d) := Lib.below_putRow (enc := id) h hg
  refine ⟨h1.os, h1.tape, h1.output, ?_, fun k hk => ?_⟩
  · unfold sortWorldK; rw [size_grow]; exact Nat.le_trans h1.size (Nat.le_add_right _ _)
  · unfold sortWorldK
    rw [heap_grow_old _ _ (by rw [size_putRowK]; exact Nat.lt_of_lt_of_le hk hC)]
    exact h1.block k hk
end
set_option maxHeartbeats 1000000 in
/-- Which of two pairs comes first. -/
theorem byKey_any (a b : Pr) (w : World) : Calls Try.prog 32 #[.agg (pcl a).toArray, .agg (pcl b).toArray] w fun e w' => e = .returned (.int .i64 (ck a b)) ∧ ∃ q os, w' = grow (w.drewN q) os := by
  have hc := fun w => cmpS_any (tx a.1) (tx b.1) w
  rw [tx_list, tx_list] at hc
  unfold pcl
  generalize tx a.1 = ka at *
  generalize tx b.1 = kb at *
  generalize hk : cS a.1 b.1 = r at *
  have hr : ck a b = r := hk
  rw [hr]
  clear hr hk
  go_enter Try.func32, Try.ntmps32
  go_wp2_with (fail)
  refine (hc _).mono ?_
  rintro e w1 ⟨rfl, rfl⟩
  go_wp2_with (fail)
  go_ret
  exact ⟨rfl, 0, #[_, _], by rw [alloc_eq_grow, alloc_eq_grow, grow_grow]; rfl⟩
theorem byKey_lays (blk off size : Nat) (w : World) : CmpLays Try.prog 32 #[] pcl 6 ck blk off size w := fun _ _ _ _ x y => byKey_any x y _
theorem ltOf_ck : ltOf ck = kl := funext fun a => funext fun b => ck_kl a b
/-- The stable sort of a list of the call's own. -/
theorem sort_own (l : List Pr) (g c : Nat) (w : World) (hg : g < w.heap.size) (h : HoldsK pcl 6 w g 0 l.toArray) (hl : l.length < 4611686018427387904) :
    Calls Try.prog 31 #[.slice (some ⟨g, 0, none⟩) l.length c, .func (.func 32) #[] #[]] w fun e w' => e = .returned (.tuple #[]) ∧ HoldsK pcl 6 w' g 0 (sr l).toArray ∧ g < w'.heap.size ∧
      ∀ (C : Nat) (w0 : World), Below C w0 w → C ≤ g → Below C w0 w' := by
  have R : RowK pcl 6 w g 0 l.toArray := ⟨pcl_len, pcl_one, h, hg⟩
  have hz : l.toArray.size = l.length := by simp
  have hs := sortStable stL 6 (fun w => by kernel_rfl) (fun w => by kernel_rfl) pcl ck 32 #[] g 0 c l.toArray w (by rw [ltOf_ck]; exact swo) (enters_of Try.func32 (by kernel_rfl) rfl) (byKey_lays g 0 _ w) R (by rw [hz]; exact hl)
  rw [hz] at hs
  refine hs.mono ?_
  rintro e w' ⟨rfl, d', hd, S⟩
  rw [ltOf_ck, ← hz] at hd
  have e1 : d' = (sr l).toArray := by rw [← sr_of_srt hd]
  subst e1
  refine ⟨rfl, S.holds hg h (by simp [sr_len]), S.lt hg, fun C w0 hb hC => ?_⟩
  obtain ⟨n, os, rfl⟩ := S
  exact below_sort hb hC (by omega)
end Go.Proofs.Ytgakcpcpfkoaiaa.Pr

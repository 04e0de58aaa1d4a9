/-
  Texts, pieces and codes in memory.
-/
import Derived.Test.YtkgfkchdbbeljaaCdMath
import Derived.Test.YtkgfkchdbbeljaaMxUndo
import Derived.Test.YtkgfkchdbbeljaaMxMul
namespace Go.Proofs.Ytkgfkchdbbeljaa.Cd
open Go.ChangeShapes Go.WideShapes Go.ChangeAt Go.RowKit Go.Proofs.Ytkgfkchdbbeljaa.Gf Go.Proofs.Ytkgfkchdbbeljaa.Mx

/-- n texts behind a pointer. -/
def Strs (w : World) (p : Option Addr) (n : Nat) (t : Nat → ByteArray) : Prop :=
  0 < n → ∃ B O, p = some ⟨B, O, none⟩ ∧ ∀ i, i < n → w.cell? ⟨B, O + i, none⟩ = some (.string (t i))
/-- n pieces behind a pointer. -/
def Pcs (w : World) (p : Option Addr) (n : Nat) (z : Nat → Int) (t : Nat → ByteArray) : Prop :=
  0 < n → ∃ B O, p = some ⟨B, O, none⟩ ∧ ∀ i, i < n → w.cell? ⟨B, O + i * 2, none⟩ = some (.int .i64 (z i)) ∧ w.cell? ⟨B, O + i * 2 + 1, none⟩ = some (.string (t i))
section
variable {w w' : World} {p : Option Addr} {n : Nat} {z : Nat → Int} {t t' : Nat → ByteArray}
theorem Strs.below (h : Strs w p n t) (k : Below w.heap.size w w') : Strs w' p n t := fun hn => by
  obtain ⟨B, O, e, hc⟩ := h hn
  exact ⟨B, O, e, fun i hi => by rw [k.cell (p := ⟨B, O + i, none⟩) (block_lt_of_cell (hc i hi))]; exact hc i hi⟩
theorem Strs.drewN (h : Strs w p n t) (m : Nat) : Strs (w.drewN m) p n t := h
theorem Strs.congr (h : Strs w p n t) (e : ∀ i, i < n → t i = t' i) : Strs w p n t' := fun hn => by
  obtain ⟨B, O, e', hc⟩ := h hn
  exact ⟨B, O, e', fun i hi => by rw [← e i hi]; exact hc i hi⟩
theorem Strs.less {m : Nat} (h : Strs w p n t) (hm : m ≤ n) : Strs w p m t := fun hn => by
  obtain ⟨B, O, e', hc⟩ := h (by omega)
  exact ⟨B, O, e', fun i hi => hc i (by omega)⟩
theorem Strs.row {B : Nat} (h : w.rowIs B 9 n (fun i => .string (t i))) : Strs w (some ⟨B, 0, none⟩) n t := fun _ =>
  ⟨B, 0, rfl, fun i hi => by rw [Nat.zero_add]; exact h.cell hi⟩
theorem Strs.at_ {B O : Nat} (h : Strs w (some ⟨B, O, none⟩) n t) {i : Nat} (hi : i < n) : w.cell? ⟨B, O + i, none⟩ = some (.string (t i)) := by
  obtain ⟨B', O', e, hc⟩ := h (by omega)
  injection e with e; injection e with e1 e2; subst e1; subst e2
  exact hc i hi
theorem Strs.at0 {B O : Nat} (h : Strs w (some ⟨B, O, none⟩) n t) (hn : 0 < n) : w.cell? ⟨B, O, none⟩ = some (.string (t 0)) := by simpa using h.at_ hn
theorem Pcs.below (h : Pcs w p n z t) (k : Below w.heap.size w w') : Pcs w' p n z t := fun hn => by
  obtain ⟨B, O, e, hc⟩ := h hn
  exact ⟨B, O, e, fun i hi => ⟨by rw [k.cell (p := ⟨B, O + i * 2, none⟩) (block_lt_of_cell (hc i hi).1)]; exact (hc i hi).1, by rw [k.cell (p := ⟨B, O + i * 2 + 1, none⟩) (block_lt_of_cell (hc i hi).2)]; exact (hc i hi).2⟩⟩
theorem Pcs.drewN (h : Pcs w p n z t) (m : Nat) : Pcs (w.drewN m) p n z t := h
theorem Pcs.less {m : Nat} (h : Pcs w p n z t) (hm : m ≤ n) : Pcs w p m z t := fun hn => by
  obtain ⟨B, O, e', hc⟩ := h (by omega)
  exact ⟨B, O, e', fun i hi => hc i (by omega)⟩
theorem Pcs.at_ {B O : Nat} (h : Pcs w (some ⟨B, O, none⟩) n z t) {i : Nat} (hi : i < n) : w.cell? ⟨B, O + i * 2, none⟩ = some (.int .i64 (z i)) ∧ w.cell? ⟨B, O + i * 2 + 1, none⟩ = some (.string (t i)) := by
  obtain ⟨B', O', e, hc⟩ := h (by omega)
  injection e with e; injection e with e1 e2; subst e1; subst e2
  exact hc i hi
end
/-- A code lies in block c. -/
structure IsC (w : World) (c k n fb TB : Nat) (r : Nat → Nat) (x : Nat → Nat → K) : Prop where
  ck : w.cell? ⟨c, 0, none⟩ = some (.int .i64 (k : Int))
  cn : w.cell? ⟨c, 1, none⟩ = some (.int .i64 (n : Int))
  cf : w.cell? ⟨c, 2, none⟩ = some (.pointer (some ⟨fb, 0, none⟩))
  ct : w.cell? ⟨c, 3, none⟩ = some (.slice (some ⟨TB, 0, none⟩) n n)
  isf : IsF w fb
  mat : Mat w TB 0 n k r (fun _ => 0) (fun _ => k) x
  cod : Cod k n x
  k1 : 1 ≤ k
  kn : k ≤ n
  n16 : n ≤ 16
section
variable {w w' : World} {c k n fb TB : Nat} {r : Nat → Nat} {x : Nat → Nat → K}
theorem IsC.below (h : IsC w c k n fb TB r x) (q : Below w.heap.size w w') : IsC w' c k n fb TB r x :=
  ⟨by rw [q.cell (p := ⟨c, 0, none⟩) (block_lt_of_cell h.ck)]; exact h.ck, by rw [q.cell (p := ⟨c, 1, none⟩) (block_lt_of_cell h.cn)]; exact h.cn,
   by rw [q.cell (p := ⟨c, 2, none⟩) (block_lt_of_cell h.cf)]; exact h.cf, by rw [q.cell (p := ⟨c, 3, none⟩) (block_lt_of_cell h.ct)]; exact h.ct,
   IsF.old h.isf q, h.mat.below q, h.cod, h.k1, h.kn, h.n16⟩
theorem IsC.drewN (h : IsC w c k n fb TB r x) (m : Nat) : IsC (w.drewN m) c k n fb TB r x :=
  ⟨h.ck, h.cn, h.cf, h.ct, h.isf.drewN m, h.mat.drewN m, h.cod, h.k1, h.kn, h.n16⟩
end
/-- A row that is filled up to k. -/
structure RowTo (w : World) (B : Nat) (ty : TypeId) (n : Nat) (f : Nat → Value) (z : Value) (k : Nat) (wr : World) : Prop where
  row : wr.rowIs B ty n (fun i => if i < k then f i else z)
  below : Below w.heap.size w wr
  lo : w.heap.size ≤ B
section
variable {w wr wr' : World} {B : Nat} {ty : TypeId} {n : Nat} {f : Nat → Value} {z : Value} {k : Nat}
theorem RowTo.start (w : World) (z : Value) (n : Nat) (ty : TypeId) (f : Nat → Value) : RowTo w w.heap.size ty n f z 0 (w.alloc (.cells (madeCells #[z] n) ty)) :=
  ⟨(World.rowIs_made w _ n _).congr (fun j _ => by simp), (Below.refl _ _).alloc (Nat.le_refl _) _, Nat.le_refl _⟩
theorem RowTo.set (h : RowTo w B ty n f z k wr) {v : Value} (e : f k = v) : RowTo w B ty n f z (k + 1) (wr.setCell ⟨B, k, none⟩ v) :=
  ⟨(h.row.set k v).congr (fun j _ => by
    by_cases q : j = k
    · subst q; rw [if_pos rfl, if_pos (by omega), e]
    · rw [if_neg q]
      by_cases hlt : j < k
      · rw [if_pos hlt, if_pos (by omega)]
      · rw [if_neg hlt, if_neg (by omega)]), h.below.setCell h.lo _, h.lo⟩
theorem RowTo.cell (h : RowTo w B ty n f z k wr) (hk : k < n) : wr.cell? ⟨B, k, none⟩ = some z := by
  have := h.row.cell hk; rwa [if_neg (Nat.lt_irrefl k)] at this
theorem RowTo.done (h : RowTo w B ty n f z n wr) : wr.rowIs B ty n f := h.row.congr fun _ hj => if_pos hj
theorem RowTo.drewN (h : RowTo w B ty n f z k wr) (m : Nat) : RowTo w B ty n f z k (wr.drewN m) := ⟨h.row, below_drewN h.below m, h.lo⟩
end
theorem infoS : (Try.prog.info? 9).map (fun i => (i.zero, i.size, i.bytes)) = some (some (.string ⟨#[]⟩), 1, 16) := by kernel_rfl
theorem infoI : (Try.prog.info? 3).map (fun i => (i.zero, i.size, i.bytes)) = some (some (.int .i64 0), 1, 8) := by kernel_rfl
theorem ret_str {a b : ByteArray} (h : a = b) : Ending.returned (.string a) = .returned (.string b) := by rw [h]
end Go.Proofs.Ytkgfkchdbbeljaa.Cd

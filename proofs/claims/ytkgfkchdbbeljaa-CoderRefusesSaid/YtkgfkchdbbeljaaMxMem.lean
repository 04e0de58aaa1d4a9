/-
  Rows in memory: rows that lie somewhere ('Mat'), and rows that a call has made of its own ('Own').
-/
import Derived.Test.YtkgfkchdbbeljaaGfDot
import Derived.Test.YtkgfkchdbbeljaaMxMath
import Derived.Deep.LoopGhost
import Derived.Deep.OwnRows
import Derived.Laws.CopyOwn
import Derived.Carry
namespace Go.Proofs.Ytkgfkchdbbeljaa.Mx
open Go.ChangeShapes Go.WideShapes Go.ChangeAt Go.RowKit Go.Proofs.Ytkgfkchdbbeljaa.Gf

theorem below_drewN {B : Nat} {w w' : World} (h : Below B w w') (m : Nat) : Below B w (w'.drewN m) := ⟨h.os, h.tape, h.output, h.size, h.block⟩
theorem fresh_size (w : World) : (fresh w).heap.size = w.heap.size + 1 := by simp [fresh]
theorem fresh_below (w : World) : Below w.heap.size w (fresh w) := (Below.refl _ _).alloc (Nat.le_refl _) _
theorem Below.next {w w1 w2 : World} (h : Below w.heap.size w w1) (k : Below w1.heap.size w1 w2) : Below w.heap.size w w2 := h.trans (k.mono h.size)
theorem rowIs_below {w w' : World} {B b : Nat} {t : TypeId} {n : Nat} {f : Nat → Value} (h : w.rowIs b t n f) (k : Below B w w') (hb : b < B) : w'.rowIs b t n f := h.of_block (k.block b hb)
theorem rowIs_drewN {w : World} {b : Nat} {t : TypeId} {n : Nat} {f : Nat → Value} (h : w.rowIs b t n f) (m : Nat) : (w.drewN m).rowIs b t n f := h
theorem rowIs_ne {w : World} {b b' : Nat} {t t' : TypeId} {n n' : Nat} {f f' : Nat → Value} (h : w.rowIs b t n f) (k : w.rowIs b' t' n' f') (hne : t ≠ t') : b ≠ b' := by
  rintro rfl
  obtain ⟨c, hc, _⟩ := h
  obtain ⟨d, hd, _⟩ := k
  rw [hc] at hd
  injection hd with hd
  injection hd with _ ht
  exact hne ht

/-- n rows of m bytes lie behind an address. -/
structure Mat (w : World) (B O n m : Nat) (b o c : Nat → Nat) (x : Nat → Nat → K) : Prop where
  top : ∀ i, i < n → w.cell? ⟨B, O + i, none⟩ = some (.slice (some ⟨b i, o i, none⟩) m (c i))
  row : ∀ i, i < n → ∀ j, j < m → w.cell? ⟨b i, o i + j, none⟩ = some (.int .u8 ((x i j).n : Int))
section
variable {w w' : World} {B O n m : Nat} {b o c : Nat → Nat} {x y : Nat → Nat → K}
theorem Mat.below (h : Mat w B O n m b o c x) (k : Below w.heap.size w w') : Mat w' B O n m b o c x :=
  ⟨fun i hi => by rw [k.cell (p := ⟨B, O + i, none⟩) (block_lt_of_cell (h.top i hi))]; exact h.top i hi,
   fun i hi j hj => by rw [k.cell (p := ⟨b i, o i + j, none⟩) (block_lt_of_cell (h.row i hi j hj))]; exact h.row i hi j hj⟩
theorem Mat.drewN (h : Mat w B O n m b o c x) (k : Nat) : Mat (w.drewN k) B O n m b o c x := ⟨h.top, h.row⟩
theorem Mat.top0 (h : Mat w B O n m b o c x) (hn : 0 < n) : w.cell? ⟨B, O, none⟩ = some (.slice (some ⟨b 0, o 0, none⟩) m (c 0)) := by simpa using h.top 0 hn
theorem Mat.bytes (h : Mat w B O n m b o c x) {i : Nat} (hi : i < n) : Bytes w (b i) (o i) m (fun j => (x i j).n) := fun j hj => ⟨h.row i hi j hj, (x i j).h⟩
theorem Mat.congr (h : Mat w B O n m b o c x) (e : ∀ i, i < n → ∀ j, j < m → x i j = y i j) : Mat w B O n m b o c y :=
  ⟨h.top, fun i hi j hj => by rw [← e i hi j hj]; exact h.row i hi j hj⟩
end

/-- n rows of m bytes, made by the call itself: all from block lo on, each row in a block of its own. -/
structure Own (w : World) (lo B n m : Nat) (r : Nat → Nat) (x : Nat → Nat → K) : Prop where
  top : w.rowIs B 23 n (fun i => .slice (some ⟨r i, 0, none⟩) m m)
  row : ∀ i, i < n → w.rowIs (r i) 5 m (fun j => .int .u8 ((x i j).n : Int))
  low : lo ≤ B
  los : ∀ i, i < n → lo ≤ r i
  inj : ∀ i, i < n → ∀ j, j < n → r i = r j → i = j
def upd (x : Nat → Nat → K) (i j : Nat) (v : K) (a b : Nat) : K := if a = i ∧ b = j then v else x a b
def updRow (x : Nat → Nat → K) (i : Nat) (v : Nat → K) (a b : Nat) : K := if a = i then v b else x a b
section
variable {w w' : World} {lo B n m : Nat} {r : Nat → Nat} {x y : Nat → Nat → K}
theorem Own.ne (h : Own w lo B n m r x) {i : Nat} (hi : i < n) : B ≠ r i := rowIs_ne h.top (h.row i hi) (by decide)
theorem Own.mat (h : Own w lo B n m r x) : Mat w B 0 n m r (fun _ => 0) (fun _ => m) x :=
  ⟨fun i hi => by rw [Nat.zero_add]; exact h.top.cell hi, fun i hi j hj => by rw [Nat.zero_add]; exact (h.row i hi).cell hj⟩
theorem Own.congr (h : Own w lo B n m r x) (e : ∀ i, i < n → ∀ j, j < m → x i j = y i j) : Own w lo B n m r y :=
  ⟨h.top, fun i hi => (h.row i hi).congr fun j hj => by rw [e i hi j hj], h.low, h.los, h.inj⟩
theorem Own.drewN (h : Own w lo B n m r x) (k : Nat) : Own (w.drewN k) lo B n m r x := ⟨h.top, h.row, h.low, h.los, h.inj⟩
theorem Own.below (h : Own w lo B n m r x) (k : Below w.heap.size w w') : Own w' lo B n m r x :=
  ⟨rowIs_below h.top k h.top.lt, fun i hi => rowIs_below (h.row i hi) k (h.row i hi).lt, h.low, h.los, h.inj⟩
theorem Own.mono {lo' : Nat} (h : Own w lo B n m r x) (k : lo' ≤ lo) : Own w lo' B n m r x :=
  ⟨h.top, h.row, Nat.le_trans k h.low, fun i hi => Nat.le_trans k (h.los i hi), h.inj⟩
/-- A store into a row. -/
theorem Own.set (h : Own w lo B n m r x) {i : Nat} (hi : i < n) (j : Nat) (v : K) : Own (w.setCell ⟨r i, j, none⟩ (.int .u8 (v.n : Int))) lo B n m r (upd x i j v) := by
  refine ⟨h.top.setOther (h.ne hi) _, fun a ha => ?_, h.low, h.los, h.inj⟩
  by_cases e : a = i
  · subst e
    refine ((h.row a ha).set j _).congr fun b hb => ?_
    unfold upd
    by_cases e2 : b = j
    · rw [if_pos e2, if_pos ⟨rfl, e2⟩]
    · rw [if_neg e2, if_neg (fun k => e2 k.2)]
  · refine ((h.row a ha).setOther (fun k => e (h.inj a ha i hi k)) _).congr fun b hb => ?_
    unfold upd; rw [if_neg (fun k => e k.1)]
/-- Of all blocks none but b has turned. -/
structure But (b : Nat) (w w' : World) : Prop where
  os : w'.os = w.os
  tape : w'.tape = w.tape
  output : w'.output = w.output
  size : w'.heap.size = w.heap.size
  block : ∀ k, k ≠ b → w'.heap[k]? = w.heap[k]?
theorem But.refl {b : Nat} : But b w w := ⟨rfl, rfl, rfl, rfl, fun _ _ => rfl⟩
theorem But.trans {b : Nat} {w'' : World} (h : But b w w') (k : But b w' w'') : But b w w'' :=
  ⟨k.os.trans h.os, k.tape.trans h.tape, k.output.trans h.output, k.size.trans h.size, fun i hi => (k.block i hi).trans (h.block i hi)⟩
theorem But.below {b lo : Nat} (h : But b w w') (hb : lo ≤ b) : Below lo w w' := ⟨h.os, h.tape, h.output, by rw [h.size]; exact Nat.le_refl _, fun k hk => h.block k (by omega)⟩
theorem But.drewN {b : Nat} (h : But b w w') (m : Nat) : But b w (w'.drewN m) := ⟨h.os, h.tape, h.output, h.size, h.block⟩
theorem But.setCell {b : Nat} (h : But b w w') (j : Nat) (v : Value) : But b w (w'.setCell ⟨b, j, none⟩ v) :=
  h.trans ⟨rfl, rfl, rfl, by simp [World.setCell], fun k hk => Below.heap_setCell _ _ _ _ hk⟩
theorem But.cell {b : Nat} (h : But b w w') {p : Addr} (hp : p.block ≠ b) : w'.cell? p = w.cell? p := World.cell?_of_block (w := w) (h.block _ hp)
/-- One row has turned, and nothing else. -/
theorem Own.turn (h : Own w lo B n m r x) {i : Nat} (hi : i < n) {v : Nat → K} (k : But (r i) w w') (hr : w'.rowIs (r i) 5 m (fun j => .int .u8 ((v j).n : Int))) : Own w' lo B n m r (updRow x i v) := by
  refine ⟨h.top.of_block (k.block _ (h.ne hi)), fun a ha => ?_, h.low, h.los, h.inj⟩
  by_cases e : a = i
  · subst e
    exact hr.congr fun b hb => by unfold updRow; rw [if_pos rfl]
  · refine ((h.row a ha).of_block (k.block _ (fun q => e (h.inj a ha i hi q)))).congr fun b hb => ?_
    unfold updRow; rw [if_neg e]
end
theorem IsF.but {w w' : World} {f b : Nat} (h : IsF w f) (k : But b w w') (hb : f ≠ b) : IsF w' f :=
  ⟨fun i hi => by rw [k.cell (p := ⟨f, i, none⟩) hb]; exact h.pow i hi, fun x hx => by rw [k.cell (p := ⟨f, 255 + x, none⟩) hb]; exact h.log x hx⟩
theorem IsF.lt {w : World} {f : Nat} (h : IsF w f) : f < w.heap.size := block_lt_of_cell (h.pow 0 (by omega))
theorem IsF.old {w w' : World} {f : Nat} (h : IsF w f) (k : Below w.heap.size w w') : IsF w' f := h.below (IsF.lt h) k

/-! ### Rows that are filled -/
/-- Filled up to place j of row i. -/
def fillTo (x : Nat → Nat → K) (i j a b : Nat) : K := if a < i ∨ (a = i ∧ b < j) then x a b else 0
theorem fill_start (x : Nat → Nat → K) (a b : Nat) : fillTo x 0 0 a b = 0 := if_neg (by omega)
theorem fill_step (x : Nat → Nat → K) (i j a b : Nat) : upd (fillTo x i j) i j (x i j) a b = fillTo x i (j + 1) a b := by
  unfold upd fillTo
  by_cases h : a = i ∧ b = j
  · rw [if_pos h, if_pos (by omega), h.1, h.2]
  · rw [if_neg h]
    by_cases h2 : a < i ∨ (a = i ∧ b < j)
    · rw [if_pos h2, if_pos (by omega)]
    · rw [if_neg h2, if_neg (by omega)]
theorem fill_row (x : Nat → Nat → K) (i m a b : Nat) (hb : b < m) : fillTo x i m a b = fillTo x (i + 1) 0 a b := by
  unfold fillTo
  by_cases h2 : a < i ∨ (a = i ∧ b < m)
  · rw [if_pos h2, if_pos (by omega)]
  · rw [if_neg h2, if_neg (by omega)]
theorem fill_rows (x : Nat → Nat → K) (i a b : Nat) : updRow (fillTo x i 0) i (x i) a b = fillTo x (i + 1) 0 a b := by
  unfold updRow fillTo
  by_cases h : a = i
  · subst h; rw [if_pos rfl, if_pos (by omega)]
  · rw [if_neg h]
    by_cases h2 : a < i
    · rw [if_pos (by omega), if_pos (by omega)]
    · rw [if_neg (by omega), if_neg (by omega)]
theorem fill_done (x : Nat → Nat → K) (n a b : Nat) (ha : a < n) : fillTo x n 0 a b = x a b := if_pos (by omega)
/-- Filled up to place j of column i. -/
def fillCol (x : Nat → Nat → K) (i j a b : Nat) : K := if b < i ∨ (b = i ∧ a < j) then x a b else 0
theorem fillc_start (x : Nat → Nat → K) (a b : Nat) : fillCol x 0 0 a b = 0 := if_neg (by omega)
theorem fillc_step (x : Nat → Nat → K) (i j a b : Nat) : upd (fillCol x i j) j i (x j i) a b = fillCol x i (j + 1) a b := by
  unfold upd fillCol
  by_cases h : a = j ∧ b = i
  · rw [if_pos h, if_pos (by omega), h.1, h.2]
  · rw [if_neg h]
    by_cases h2 : b < i ∨ (b = i ∧ a < j)
    · rw [if_pos h2, if_pos (by omega)]
    · rw [if_neg h2, if_neg (by omega)]
theorem fillc_col (x : Nat → Nat → K) (i m a b : Nat) (ha : a < m) : fillCol x i m a b = fillCol x (i + 1) 0 a b := by
  unfold fillCol
  by_cases h2 : b < i ∨ (b = i ∧ a < m)
  · rw [if_pos h2, if_pos (by omega)]
  · rw [if_neg h2, if_neg (by omega)]
theorem fillc_done (x : Nat → Nat → K) (n a b : Nat) (hb : b < n) : fillCol x n 0 a b = x a b := if_pos (by omega)
end Go.Proofs.Ytkgfkchdbbeljaa.Mx

/-
  Rows of whole numbers that are appended to, then exchanged and added to in place: what stookref02's Rank makes.
-/
import Derived.Test.YtnobpdgicglieaaMxRefMul
namespace Go.Proofs.Ytnobpdgicglieaa.Mx
open Go.ChangeShapes Go.WideShapes Go.ChangeAt Go.RowKit Go.Proofs.Ytnobpdgicglieaa.Gf

/-- A block whose first n cells are known. -/
def rowLe (w : World) (b : Nat) (t : TypeId) (n : Nat) (f : Nat → Value) : Prop := ∃ c : Array Value, w.heap[b]? = some (.cells c t (0, 0)) ∧ n ≤ c.size ∧ ∀ i, i < n → c[i]? = some (f i)
section
variable {w w' : World} {b b' : Nat} {t t' : TypeId} {n n' : Nat} {f g : Nat → Value}
theorem rowLe.cell (h : rowLe w b t n f) {i : Nat} (hi : i < n) : w.cell? ⟨b, i, none⟩ = some (f i) := by
  obtain ⟨c, hb, _, hc⟩ := h
  simp [World.cell?, hb, hc i hi]
theorem rowLe.frozen (h : rowLe w b t n f) (i : Nat) : w.frozen? ⟨b, i, none⟩ = false := by
  obtain ⟨c, hb, _, _⟩ := h
  simp [World.frozen?, hb]
theorem rowLe.lt (h : rowLe w b t n f) : b < w.heap.size := by
  obtain ⟨c, hb, _, _⟩ := h
  exact (Array.getElem?_eq_some_iff.1 hb).1
theorem rowLe.congr (h : rowLe w b t n f) (e : ∀ i, i < n → f i = g i) : rowLe w b t n g := by
  obtain ⟨c, hb, hn, hc⟩ := h
  exact ⟨c, hb, hn, fun i hi => by rw [hc i hi, e i hi]⟩
theorem rowLe.of_block (h : rowLe w b t n f) (e : w'.heap[b]? = w.heap[b]?) : rowLe w' b t n f := by
  obtain ⟨c, hb, hn, hc⟩ := h
  exact ⟨c, e.trans hb, hn, hc⟩
theorem rowLe.set (h : rowLe w b t n f) (i : Nat) (v : Value) : rowLe (w.setCell ⟨b, i, none⟩ v) b t n (fun j => if j = i then v else f j) := by
  obtain ⟨c, hb, hn, hc⟩ := h
  refine ⟨c.setIfInBounds i v, ?_, by simpa using hn, fun j hj => ?_⟩
  · simp [World.setCell, Array.getElem?_modify, hb]
  · rw [Array.getElem?_setIfInBounds]
    by_cases e : j = i
    · subst e
      have hj' : j < c.size := by omega
      simp [hj']
    · rw [if_neg (fun h => e h.symm)]
      show c[j]? = some (if j = i then v else f j)
      rw [if_neg e]
      exact hc j hj
theorem rowLe.setOther (h : rowLe w b t n f) {a : Addr} (ha : b ≠ a.block) (v : Value) : rowLe (w.setCell a v) b t n f := h.of_block (Below.heap_setCell _ _ _ _ ha)
theorem rowLe.ne (h : rowLe w b t n f) (k : rowLe w b' t' n' g) (hne : t ≠ t') : b ≠ b' := by
  rintro rfl
  obtain ⟨c, hc, _⟩ := h
  obtain ⟨d, hd, _⟩ := k
  rw [hc] at hd
  injection hd with hd
  injection hd with _ ht
  exact hne ht
theorem rowLe.drewN (h : rowLe w b t n f) (q : Nat) : rowLe (w.drewN q) b t n f := h
end
/-- The cells of m whole numbers. -/
def il (m : Nat) (x : Nat → K) : List Value := (List.range m).map fun j => Value.int .i64 ((x j).n : Int)
theorem il_succ (m : Nat) (x : Nat → K) : il (m + 1) x = il m x ++ [.int .i64 ((x m).n : Int)] := by
  unfold il; rw [List.range_succ, List.map_append]; rfl
theorem il_get (m j : Nat) (x : Nat → K) (h : j < m) : (il m x)[j]? = some (.int .i64 ((x j).n : Int)) := by
  unfold il; rw [List.getElem?_map, List.getElem?_range h]; rfl
/-- k rows of m whole numbers each are appended, each in a block of its own. -/
structure OutsI (w wr : World) (m k : Nat) (z : Nat → Nat → K) (R : Nat → Value) (v : Value) : Prop where
  top : wr.ownsRow w.heap.size 33 1 v k ((List.range k).map R)
  row : ∀ i, i < k → wr.ownsRow w.heap.size 3 1 (R i) m (il m (z i))
  inj : ∀ i, i < k → ∀ j, j < k → (R i).ownBlock = (R j).ownBlock → i = j
  below : Below w.heap.size w wr
theorem own_rowLe {w : World} {base : Nat} {e : TypeId} {n g cap : Nat} {xs : List Value} {f : Nat → Value} (h : w.ownsRow base e 1 (.slice (some ⟨g, 0, none⟩) n cap) n xs) (hf : ∀ i, i < n → xs[i]? = some (f i)) : rowLe w g e n f := by
  rcases h.2 with ⟨hv, _⟩ | ⟨g', cap', cur, hv, _, hh, hnc, _, hsz, htk⟩
  · cases hv
  · injection hv with hv1 hv2 hv3
    injection hv1 with hv1
    injection hv1 with hv1
    subst hv1
    refine ⟨cur, hh, by omega, fun i hi => ?_⟩
    rw [← hf i hi, ← htk, List.getElem?_take, if_pos (by omega), Array.getElem?_toList]
/-- N rows of m whole numbers, made by the call itself: all from block lo on, each row in a block of its own. -/
structure OwnI (w : World) (lo B N m : Nat) (r cp : Nat → Nat) (x : Nat → Nat → K) : Prop where
  top : rowLe w B 33 N (fun i => .slice (some ⟨r i, 0, none⟩) m (cp i))
  row : ∀ i, i < N → rowLe w (r i) 3 m (fun j => .int .i64 ((x i j).n : Int))
  low : lo ≤ B
  los : ∀ i, i < N → lo ≤ r i
  inj : ∀ i, i < N → ∀ j, j < N → r i = r j → i = j
section
variable {w wr w' wo : World} {m k n : Nat} {z : Nat → Nat → K} {R : Nat → Value} {v : Value}
theorem OutsI.next (h : OutsI w wr m k z R v) (b : Below wr.heap.size wr w') : OutsI w w' m k z R v :=
  ⟨own_below h.top b (Nat.le_refl _), fun i hi => own_below (h.row i hi) b (Nat.le_refl _), h.inj, Below.next h.below b⟩
/-- One row more, which lies behind all that was there in world wo. -/
theorem OutsI.push (hm : 0 < m) (ho : OutsI w wo m k z R v) (h : OutsI w wr m k z R v) {u v' : Value} (hu : wr.ownsRow wo.heap.size 3 1 u m (il m (z k))) (ht : w'.ownsRow w.heap.size 33 1 v' (k + 1) ((List.range k).map R ++ [u])) (hg : wr.grownBy w' v.ownBlock) :
    OutsI w w' m (k + 1) z (fun i => if i < k then R i else u) v' := by
  have hub : ∀ g, u.ownBlock = some g → wo.heap.size ≤ g := fun g e => (hu.lt g e).1
  have hRb : ∀ i, i < k → ∃ g, (R i).ownBlock = some g ∧ g < wo.heap.size := fun i hi => by
    obtain ⟨g, c, hv, _, _⟩ := (ho.row i hi).form hm
    have e : (R i).ownBlock = some g := by rw [hv]; rfl
    exact ⟨g, e, ((ho.row i hi).lt g e).2⟩
  have hus : ∃ g, u.ownBlock = some g := by
    obtain ⟨g, c, hv, _, _⟩ := hu.form hm
    exact ⟨g, by rw [hv]; rfl⟩
  have hne : ∀ i, i < k → (R i).ownBlock ≠ u.ownBlock := fun i hi e => by
    obtain ⟨g, hg1, hg2⟩ := hRb i hi
    rw [hg1] at e
    have := hub g e.symm
    omega
  refine ⟨?_, fun i hi => ?_, fun i hi j hj e => ?_, h.below.grown hg h.below.size (fun g e => (h.top.lt g e).1)⟩
  · rw [List.range_succ, List.map_append, List.map_cons, List.map_nil, if_neg (Nat.lt_irrefl k)]
    rw [List.map_congr_left (g := R) (fun i hi => if_pos (List.mem_range.1 hi))]
    exact ht
  · show w'.ownsRow _ _ _ (if i < k then R i else u) _ _
    by_cases e : i < k
    · rw [if_pos e]; exact (h.row i e).kept hg (own_ne (h.row i e) h.top (by decide))
    · rw [if_neg e]
      obtain rfl : i = k := by omega
      exact (own_mono hu ho.below.size).kept hg (own_ne hu h.top (by decide))
  · have e' : (if i < k then R i else u).ownBlock = (if j < k then R j else u).ownBlock := e
    by_cases e1 : i < k
    · by_cases e2 : j < k
      · rw [if_pos e1, if_pos e2] at e'; exact h.inj i e1 j e2 e'
      · rw [if_pos e1, if_neg e2] at e'; exact absurd e' (hne i e1)
    · by_cases e2 : j < k
      · rw [if_neg e1, if_pos e2] at e'; exact absurd e'.symm (hne j e2)
      · omega
theorem OutsI.own (h : OutsI w wr m n z R v) (hn : 0 < n) (hm : 0 < m) : ∃ B cap r c, v = .slice (some ⟨B, 0, none⟩) n cap ∧ OwnI wr w.heap.size B n m r c z := by
  obtain ⟨B, cap, hv, hB, _⟩ := h.top.form hn
  have hr : ∀ i, i < n → ∃ p : Nat × Nat, R i = .slice (some ⟨p.1, 0, none⟩) m p.2 := fun i hi => by
    obtain ⟨g, c, hg, _, _⟩ := (h.row i hi).form hm
    exact ⟨(g, c), hg⟩
  obtain ⟨p, hp⟩ := Go.Deep.choose_lt hr
  have hrow : ∀ i, i < n → wr.ownsRow w.heap.size 3 1 (.slice (some ⟨(p i).1, 0, none⟩) m (p i).2) m (il m (z i)) := fun i hi => by have := h.row i hi; rwa [hp i hi] at this
  have htop := h.top
  rw [hv] at htop
  refine ⟨B, cap, fun i => (p i).1, fun i => (p i).2, hv, ⟨own_rowLe htop (fun i hi => ?_), fun i hi => own_rowLe (hrow i hi) (fun j hj => il_get m j _ hj), (htop.lt B rfl).1, fun i hi => ((hrow i hi).lt _ rfl).1, fun i hi j hj e => ?_⟩⟩
  · rw [List.getElem?_map, List.getElem?_range hi]
    exact congrArg some (hp i hi)
  · refine h.inj i hi j hj ?_
    rw [hp i hi, hp j hj]
    exact congrArg some e
end
section
variable {w w' : World} {lo B N m : Nat} {r cp : Nat → Nat} {x y : Nat → Nat → K}
theorem OwnI.ne (h : OwnI w lo B N m r cp x) {i : Nat} (hi : i < N) : B ≠ r i := h.top.ne (h.row i hi) (by decide)
theorem OwnI.congr (h : OwnI w lo B N m r cp x) (e : ∀ i, i < N → ∀ j, j < m → x i j = y i j) : OwnI w lo B N m r cp y :=
  ⟨h.top, fun i hi => (h.row i hi).congr fun j hj => by rw [e i hi j hj], h.low, h.los, h.inj⟩
theorem OwnI.drewN (h : OwnI w lo B N m r cp x) (q : Nat) : OwnI (w.drewN q) lo B N m r cp x := ⟨h.top, h.row, h.low, h.los, h.inj⟩
theorem OwnI.set (h : OwnI w lo B N m r cp x) {i : Nat} (hi : i < N) (j : Nat) (v : K) : OwnI (w.setCell ⟨r i, j, none⟩ (.int .i64 (v.n : Int))) lo B N m r cp (upd x i j v) := by
  refine ⟨h.top.setOther (h.ne hi) _, fun a ha => ?_, h.low, h.los, h.inj⟩
  by_cases e : a = i
  · subst e
    refine ((h.row a ha).set j _).congr fun b hb => ?_
    unfold upd
    by_cases e2 : b = j
    · rw [if_pos e2, if_pos ⟨rfl, e2⟩]
    · rw [if_neg e2, if_neg (fun k => e2 k.2)]
  · refine ((h.row a ha).setOther (fun k => e (h.inj a ha i hi k)) _).congr fun b hb => ?_
    unfold upd; rw [if_neg (fun k => e k.1)]
theorem OwnI.swap (h : OwnI w lo B N m r cp x) {p q : Nat} (hp : p < N) (hq : q < N) :
    OwnI ((w.setCell ⟨B, q, none⟩ (.slice (some ⟨r p, 0, none⟩) m (cp p))).setCell ⟨B, p, none⟩ (.slice (some ⟨r q, 0, none⟩) m (cp q))) lo B N m (fun i => r (sw p q i)) (fun i => cp (sw p q i)) (fun i => x (sw p q i)) := by
  refine ⟨((h.top.set q _).set p _).congr fun i hi => ?_, fun i hi => ?_, h.low, fun i hi => h.los _ (sw_lt hp hq hi), fun i hi j hj e => sw_inj (h.inj _ (sw_lt hp hq hi) _ (sw_lt hp hq hj) e)⟩
  · unfold sw
    by_cases e1 : i = p
    · rw [if_pos e1, if_pos e1]
    · rw [if_neg e1, if_neg e1]
      by_cases e2 : i = q
      · rw [if_pos e2, if_pos e2]
      · rw [if_neg e2, if_neg e2]
  · have hs := sw_lt hp hq hi
    exact ((h.row _ hs).setOther (Ne.symm (h.ne hs)) _).setOther (Ne.symm (h.ne hs)) _
end
/-! ### What clearing below does -/
/-- The first c columns are cleared below, and none of them is nothing where it is its own row. -/
def Tri (N c : Nat) (y : Nat → Nat → K) : Prop := ∀ j, j < c → y j j ≠ 0 ∧ ∀ i, j < i → i < N → y i j = 0
theorem Tri.sing {N c : Nat} {y : Nat → Nat → K} (h : Tri N c y) (hc : c < N) (hz : ∀ i, c ≤ i → i < N → y i c = 0) : Sing N y := by
  obtain ⟨v, hv, hk⟩ := sing_of hc (fun j hj => (h j hj).1) (fun j hj => (h j hj).2) hz
  exact ⟨v, ⟨c, hc, by rw [hv]; exact one_ne⟩, hk⟩
theorem RE.sing {N : Nat} {A y : Nat → Nat → K} (h : RE N A y) (k : Sing N y) : Sing N A := by
  obtain ⟨v, hv, hk⟩ := k
  exact ⟨v, hv, h.ker hk⟩
theorem RE.sing' {N : Nat} {A y : Nat → Nat → K} (h : RE N A y) (k : Sing N A) : Sing N y := by
  obtain ⟨v, hv, hk⟩ := k
  exact ⟨v, hv, h.ker' hk⟩
theorem Tri.full {N : Nat} {A y : Nat → Nat → K} (h : Tri N N y) (k : RE N A y) : ¬ Sing N A := fun hs =>
  not_sing_of (fun j hj => (h j hj).1) (fun j hj => (h j hj).2) (k.sing' hs)
end Go.Proofs.Ytnobpdgicglieaa.Mx

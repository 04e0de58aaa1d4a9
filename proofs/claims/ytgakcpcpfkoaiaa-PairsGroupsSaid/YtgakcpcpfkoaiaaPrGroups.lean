/-
  pairs.Groups; PairsGroups, walked.
-/
import Derived.Test.YtgakcpcpfkoaiaaPrGrs
namespace Go.Proofs.Ytgakcpcpfkoaiaa.Pr
open Go.ChangeShapes Go.WideShapes Go.ChangeAt Go.RowKit Go.Sort Go.Shelf Go.Proofs Go.Proofs.Ytgakcpcpfkoaiaa.Ov Go.Proofs.Ytgakcpcpfkoaiaa.Va Go.Proofs.Ytgakcpcpfkoaiaa.St

/-- A list lies, in none of these blocks. -/
def PrsN (s : List Nat) (w : World) (p : Option Addr) (l : List Pr) : Prop :=
  0 < l.length → ∃ B O, p = some ⟨B, O, none⟩ ∧ B ∉ s ∧ ∀ i j v, i < l.length → (pcl (pd l i))[j]? = some v → w.cell? ⟨B, O + i * 6 + j, none⟩ = some v
section
variable {s : List Nat} {w w' : World} {p : Option Addr} {l : List Pr}
theorem PrsN.prs (h : PrsN s w p l) : Prs w p l := fun hl => by obtain ⟨B, O, e, _, hc⟩ := h hl; exact ⟨B, O, e, hc⟩
theorem PrsN.next (h : PrsN s w p l) (k : Below w.heap.size w w') : PrsN s w' p l := fun hl => by
  obtain ⟨B, O, e, hn, hc⟩ := h hl
  exact ⟨B, O, e, hn, fun i j v hi hv => (k.cell (p := ⟨B, O + i * 6 + j, none⟩) (block_lt_of_cell (hc i j v hi hv))).trans (hc i j v hi hv)⟩
theorem PrsN.upto {n : Nat} (h : PrsN s w p l) (k : Below n w w') (hp : ∀ B O, p = some ⟨B, O, none⟩ → B < n) : PrsN s w' p l := fun hl => by
  obtain ⟨B, O, e, hn, hc⟩ := h hl
  exact ⟨B, O, e, hn, fun i j v hi hv => (k.cell (p := ⟨B, O + i * 6 + j, none⟩) (hp B O e)).trans (hc i j v hi hv)⟩
theorem PrsN.set (h : PrsN s w p l) {b : Nat} (hb : b ∈ s) (o : Nat) (v : Value) : PrsN s (w.setCell ⟨b, o, none⟩ v) p l := fun hl => by
  obtain ⟨B, O, e, hn, hc⟩ := h hl
  exact ⟨B, O, e, hn, fun i j u hi hv => by rw [World.cell?_setCell_other _ _ _ _ (fun e => hn (by have := congrArg Addr.block e; dsimp only at this; rw [← this]; exact hb))]; exact hc i j u hi hv⟩
theorem Prs.apart (h : Prs w p l) (hs : ∀ B O, p = some ⟨B, O, none⟩ → 0 < l.length → B ∉ s) : PrsN s w p l := fun hl => by
  obtain ⟨B, O, e, hc⟩ := h hl
  exact ⟨B, O, e, hs B O e hl, hc⟩
end
set_option maxRecDepth 100000 in
set_option maxHeartbeats 2000000 in
/-- pairs.Groups: the function that hands out the groups of the sorted list, which lies in a box of its own. -/
theorem groups_any (A : Option Addr) (c : Nat) (l : List Pr) (w : World) (h : PIn w (A, c, l)) (hT : l.length ≤ 1000000) (hX : Tx l) :
    Calls Try.prog 18 #[.slice A l.length c] w fun e w' => ∃ bx A1 c1, e = .returned (.func (.func 36) #[] #[.pointer (some ⟨bx, 0, none⟩)]) ∧ w.heap.size ≤ bx ∧ Blk w' bx [.slice A1 (sr l).length c1] ∧
      (sr l).length ≤ c1 ∧ OwnL w.heap.size w' A1 (sr l) ∧ Below w.heap.size w w' := by
  have hs := sort_any A c l w h hT hX
  clear h hT hX
  go_enter Try.func18, Try.ntmps18
  go_wp2_with (fail)
  refine hs.mono ?_
  rintro e w1 ⟨A1, c1, rfl, ho, hn, hcp, hb⟩
  have HO := Lib.hid (ho.next (box1 w1 (.cells #[.slice A1 (sr l).length c1] 22)))
  have HK := Lib.hid (Blk.made w1 22 [.slice A1 (sr l).length c1] rfl)
  have HC := Lib.hid hcp
  have HB := Lib.hid (Below.next hb (box1 w1 (.cells #[.slice A1 (sr l).length c1] 22)))
  have HZ := Lib.hid hb.size
  clear hs ho hn hcp hb
  go_wp2_with (fail)
  go_ret
  exact ⟨w1.heap.size, A1, c1, rfl, HZ.out, HK.out, HC.out, HO.out, HB.out⟩
/-- How many pairs these groups hold. -/
def tot : List Gx → Nat
  | [] => 0
  | x :: t => x.2.2.length + tot t
theorem tot_snoc (pre : List Gx) (x : Gx) : tot (pre ++ [x]) = tot pre + x.2.2.length := by
  induction pre with
  | nil => simp [tot]
  | cons y t ih => simp only [List.cons_append, tot, ih]; omega
theorem grp_len {rest : List Pr} {k : Nat} (h : IsG rest k) : ((rest.take k).map (·.2)).length = k := by
  rw [List.length_map, List.length_take]; have := h.2.1; omega
theorem pd_drop (l : List Pr) (i j : Nat) : pd (l.drop i) j = pd l (i + j) := by unfold pd; rw [List.getElem?_drop]
theorem took_at {L : List Pr} {pre : List Gx} {rest : List Pr} (h : Took L pre rest) : rest = L.drop (tot pre) ∧ tot pre ≤ L.length ∧ (0 < tot pre → tot pre < L.length → (pd L (tot pre - 1)).1 ≠ (pd L (tot pre)).1) := by
  induction h with
  | nil => exact ⟨rfl, Nat.zero_le _, fun h => absurd h (Nat.lt_irrefl _)⟩
  | snoc ht hk ih =>
    rename_i pre rest k g
    obtain ⟨e1, e2, _⟩ := ih
    obtain ⟨k0, k1, k2, k3⟩ := hk
    have hlen := grp_len ⟨k0, k1, k2, k3⟩
    have e4 : tot (pre ++ [((pd rest 0).1, g, (rest.take k).map (·.2))]) = tot pre + k := by rw [tot_snoc, hlen]
    rw [e4]
    rw [e1, List.length_drop] at k1
    refine ⟨by rw [e1, List.drop_drop], by omega, fun _ h2 => ?_⟩
    have a := k2 (k - 1) (by omega)
    have b := k3 (by rw [e1, List.length_drop]; omega)
    rw [e1, pd_drop, pd_drop] at a b
    rw [show tot pre + k - 1 = tot pre + (k - 1) by omega, a]
    exact fun e => b e.symm
theorem pre_len {L : List Pr} {pre : List Gx} {rest : List Pr} (h : Took L pre rest) : pre.length ≤ tot pre := by
  induction h with
  | nil => exact Nat.le_refl _
  | snoc ht hk ih => rw [tot_snoc, grp_len hk, List.length_append]; have := hk.1; simp only [List.length_cons, List.length_nil]; omega
theorem blk_upto {w w' : World} {b n : Nat} {vs : List Value} (h : Blk w b vs) (k : Below n w w') (hb : b < n) : Blk w' b vs :=
  ⟨fun i v e => (k.cell (p := ⟨b, i, none⟩) hb).trans (h.c i v e), fun i v e => (k.frozen (p := ⟨b, i, none⟩) hb).trans (h.f i v e), Nat.lt_of_lt_of_le h.lt k.size⟩
/-- The boxes of the law. -/
structure Bx where
  b3 : Nat
  b4 : Nat
  b5 : Nat
  b6 : Nat
  b7 : Nat
  bx : Nat
  Am : Option Addr
  A1 : Option Addr
  cm : Nat
  c1 : Nat
  stop : Int
/-- Between two rounds. -/
structure GI (w : World) (q : Bx) (L : List Pr) (pre : List Gx) (W : World) : Prop where
  h3 : Blk W q.b3 [.int .u8 q.stop]
  h4 : Blk W q.b4 [.bool false]
  h5 : Blk W q.b5 [.slice q.Am L.length q.cm]
  h6 : Blk W q.b6 [.int .i64 (tot pre : Nat)]
  h7 : Blk W q.b7 [.int .i64 (pre.length : Nat)]
  hm : PrsN [q.b4, q.b6, q.b7] W q.Am L
  hx : Blk W q.bx [.slice q.A1 L.length q.c1]
  hl : PrsN [q.b4, q.b6, q.b7] W q.A1 L
  hb : Below w.heap.size w W
/-- Where they lie. -/
structure Lo (n : Nat) (w : World) (q : Bx) (L : List Pr) : Prop where
  h3 : q.b3 < n
  h4 : q.b4 < n
  h5 : q.b5 < n
  h6 : q.b6 < n
  h7 : q.b7 < n
  hx : q.bx < n
  hm : ∀ B O, q.Am = some ⟨B, O, none⟩ → B < n
  hl : ∀ B O, q.A1 = some ⟨B, O, none⟩ → B < n
  n3 : w.heap.size ≤ q.b3
  n4 : w.heap.size ≤ q.b4
  n6 : w.heap.size ≤ q.b6
  n7 : w.heap.size ≤ q.b7
  d : q.b4 ≠ q.b3 ∧ q.b4 ≠ q.b5 ∧ q.b4 ≠ q.b6 ∧ q.b4 ≠ q.b7 ∧ q.b4 ≠ q.bx ∧ q.b6 ≠ q.b3 ∧ q.b6 ≠ q.b5 ∧ q.b6 ≠ q.b7 ∧ q.b6 ≠ q.bx ∧ q.b7 ≠ q.b3 ∧ q.b7 ≠ q.b5 ∧ q.b7 ≠ q.bx
  hn : w.heap.size ≤ n
theorem GI.upto {w : World} {q : Bx} {L : List Pr} {pre : List Gx} {X Y : World} {n : Nat} (h : GI w q L pre X) (o : Lo n w q L) (k : Below n X Y) : GI w q L pre Y :=
  ⟨blk_upto h.h3 k o.h3, blk_upto h.h4 k o.h4, blk_upto h.h5 k o.h5, blk_upto h.h6 k o.h6, blk_upto h.h7 k o.h7, h.hm.upto k o.hm, blk_upto h.hx k o.hx, h.hl.upto k o.hl, h.hb.trans (k.mono o.hn)⟩
theorem GI.step {w : World} {q : Bx} {L : List Pr} {pre : List Gx} {W : World} {n : Nat} (h : GI w q L pre W) (o : Lo n w q L) (x : Gx) (v6 v7 : Int) (e6 : v6 = (tot (pre ++ [x]) : Nat)) (e7 : v7 = ((pre ++ [x]).length : Nat)) :
    GI w q L (pre ++ [x]) ((W.setCell ⟨q.b6, 0, none⟩ (.int .i64 v6)).setCell ⟨q.b7, 0, none⟩ (.int .i64 v7)) := by
  obtain ⟨d1, d2, d3, d4, d5, d6, d7, d8, d9, d10, d11, d12⟩ := o.d
  subst e6; subst e7
  exact ⟨(h.h3.put d6 0 _).put d10 0 _, (h.h4.put (Ne.symm d3) 0 _).put (Ne.symm d4) 0 _, (h.h5.put d7 0 _).put d11 0 _, (h.h6.set 0 _).put (Ne.symm d8) 0 _, (h.h7.put d8 0 _).set 0 _,
    (h.hm.set (by simp) 0 _).set (by simp) 0 _, (h.hx.put d9 0 _).put d12 0 _, (h.hl.set (by simp) 0 _).set (by simp) 0 _, (h.hb.setCell (p := ⟨q.b6, 0, none⟩) o.n6 _).setCell (p := ⟨q.b7, 0, none⟩) o.n7 _⟩
theorem lets_drew (B : Nat) (X : World) (q : Nat) : Lets B X (X.drewN q) := ⟨Nat.le_refl _, rfl, rfl⟩
theorem lets_set {B : Nat} {X Y : World} (h : Lets B X Y) {b : Nat} (hb : b < B) (v : Value) : Lets B X (Y.setCell ⟨b, 0, none⟩ v) :=
  ⟨by simpa using h.size, (Below.heap_setCell _ _ _ _ (by dsimp only; omega)).trans h.d, (Below.heap_setCell _ _ _ _ (by dsimp only; omega)).trans h.r⟩
theorem OwnL.prsN {s : List Nat} {B : Nat} {w : World} {p : Option Addr} {l : List Pr} (h : OwnL B w p l) (hs : ∀ b ∈ s, b < B) : PrsN s w p l := fun hl => by
  rcases h with ⟨rfl, _⟩ | ⟨g, e, h1, h2, hh⟩
  · exact absurd hl (Nat.lt_irrefl _)
  · obtain ⟨B', O, e', hc⟩ := (OwnL.prs (B := B) (.inr ⟨g, e, h1, h2, hh⟩)) hl
    refine ⟨B', O, e', fun hm => ?_, hc⟩
    rw [e] at e'
    injection e' with e'
    injection e' with e1
    have := hs _ hm
    omega
theorem OwnL.lt {B : Nat} {w : World} {p : Option Addr} {l : List Pr} (h : OwnL B w p l) (b o : Nat) (e : p = some ⟨b, o, none⟩) : b < w.heap.size := by
  rcases h with ⟨_, e1⟩ | ⟨g, e1, h1, h2, hh⟩
  · rw [e] at e1; cases e1
  · rw [e] at e1
    injection e1 with e1
    injection e1 with e1
    omega
/-- The document's Sort, once more. -/
theorem rsort_prs (A : Option Addr) (c : Nat) (l : List Pr) (w : World) (h : Prs w A l) (hl : l.length ≤ 100000) :
    Calls Try.prog 17 #[.slice A l.length c] w fun e w' => ∃ Am cm, e = .returned (.slice Am l.length cm) ∧ Prs w' Am (sr l) ∧ (∀ B O, Am = some ⟨B, O, none⟩ → w.heap.size ≤ B ∧ B < w'.heap.size) ∧ Below w.heap.size w w' :=
  (rsort_any A c l w h hl).mono fun e w' ⟨v, he, hown, hb⟩ => by
    rw [← sr_len l] at hown
    obtain ⟨Am, cm, rfl, hp⟩ := own_pin hown
    rw [sr_len] at he
    exact ⟨Am, cm, he, hp.1, fun B O e => hown.lt B (by rw [e]; rfl), hb⟩
end Go.Proofs.Ytgakcpcpfkoaiaa.Pr

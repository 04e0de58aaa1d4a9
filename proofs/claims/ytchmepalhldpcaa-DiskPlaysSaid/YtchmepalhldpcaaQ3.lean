/-
  Small texts of this claim, together: RdWrite.
-/
import Derived.Test.YtchmepalhldpcaaQRdWithout
import Derived.Laws.Cover1
namespace Go.Proofs.Ytchmepalhldpcaa.Dk
open Go.ChangeShapes Go.WideShapes Go.ChangeAt Go.RowKit Go.ChangeMaps Go.Maps Go.MapKept Ov
def Fm (n : Nat) (w : World) (v1 v2 u1 u2 : Value) : Prop := ∀ g, (u1.ownBlock = some g ∨ u2.ownBlock = some g) → (n ≤ g ∧ g < w.heap.size) ∨ v1.ownBlock = some g ∨ v2.ownBlock = some g
def WrQ (sz : Nat) (o1 o2 : Value) (q : Nat × Ls) (w : World) (e : Ending) (w' : World) : Prop := ∃ v1 v2, e = .returned (.tuple #[rdv3 sz v1 v2, .int .i64 (q.1 : Int)]) ∧ RD w' q.2 v1 v2 ∧ Below w.heap.size w w' ∧ Fm w.heap.size w' o1 o2 v1 v2
theorem Fm.same {n : Nat} {w : World} {v1 v2 : Value} : Fm n w v1 v2 v1 v2 := fun _ h => .inr h
theorem Fm.own {n lo b sz : Nat} {w : World} {xs ys : List Value} {v1 v2 u1 u2 : Value} (h : RH w lo b sz xs ys u1 u2) (hn : n ≤ lo) : Fm n w v1 v2 u1 u2 := fun g hg => by
 have ho : ∀ (v : Value) (n : Nat) (zs : List Value), w.ownsRow lo 9 1 v n zs → v.ownBlock = some g → lo ≤ g ∧ g < w.heap.size := fun v n zs ho e => by
  rcases ho.2 with ⟨rfl, _⟩ | ⟨g2, cap, cur, rfl, hlo, hc, _⟩
  · cases e
  · have := own_is e; have := (Array.getElem?_eq_some_iff.1 hc).1; omega
 rcases hg with e | e
 · exact .inl ((ho _ _ _ h.o1 e).imp (Nat.le_trans hn) id)
 · exact .inl ((ho _ _ _ h.o2 e).imp (Nat.le_trans hn) id)
def At (n s : List UInt8) (W : Ls) (i : Nat) (b : Bool) (acc : Ls) : Prop :=
 if b = true then acc = ins n s (W.take i) ∧ (∃ y ∈ W.take i, bf n y.1 = true) else acc = W.take i ∧ ∀ y ∈ W.take i, bf n y.1 = false
theorem ins_put {n s : List UInt8} : ∀ {l : Ls} (x : List UInt8 × List UInt8), (∃ y ∈ l, bf n y.1 = true) → ins n s (l ++ [x]) = ins n s l ++ [x]
 | [], _, ⟨_, h, _⟩ => by cases h
 | y :: r, x, h => by
   by_cases e : bf n y.1 = true
   · show (if bf n y.1 then _ else _) = (if bf n y.1 then _ else _) ++ _
     rw [if_pos e, if_pos e]; rfl
   · show (if bf n y.1 then (n, s) :: y :: (r ++ [x]) else y :: ins n s (r ++ [x])) = (if bf n y.1 then (n, s) :: y :: r else y :: ins n s r) ++ [x]
     rw [if_neg e, if_neg e, ins_put x (by
      obtain ⟨z, hz, h1⟩ := h
      rcases List.mem_cons.1 hz with rfl | hz
      · exact absurd h1 e
      · exact ⟨z, hz, h1⟩)]
     rfl
theorem ins_last {n s : List UInt8} : ∀ {l : Ls}, (∀ y ∈ l, bf n y.1 = false) → ins n s l = l ++ [(n, s)]
 | [], _ => rfl
 | y :: r, h => by
   show (if bf n y.1 then _ else _) = _
   rw [if_neg (by rw [h y List.mem_cons_self]; exact Bool.false_ne_true), ins_last fun z hz => h z (List.mem_cons_of_mem _ hz)]
   rfl
theorem ins_here {n s : List UInt8} : ∀ {l : Ls} {x : List UInt8 × List UInt8}, (∀ y ∈ l, bf n y.1 = false) → bf n x.1 = true → ins n s (l ++ [x]) = l ++ [(n, s)] ++ [x]
 | [], x, _, h => by show (if bf n x.1 then _ else _) = _; rw [if_pos h]; rfl
 | y :: r, x, h, hx => by
   show (if bf n y.1 then (n, s) :: y :: (r ++ [x]) else y :: ins n s (r ++ [x])) = _
   rw [if_neg (by rw [h y List.mem_cons_self]; exact Bool.false_ne_true), ins_here (fun z hz => h z (List.mem_cons_of_mem _ hz)) hx]
   rfl
theorem At.put {n s : List UInt8} {W acc : Ls} {i : Nat} (h : At n s W i true acc) (hi : i < W.length) : At n s W (i + 1) true (acc ++ [W[i]]) := by
 obtain ⟨rfl, h2⟩ := (show _ ∧ _ from h)
 show _ ∧ _
 rw [List.take_succ_eq_append_getElem hi]
 obtain ⟨y, hy, hb⟩ := h2
 exact ⟨(ins_put _ ⟨y, hy, hb⟩).symm, y, List.mem_append_left _ hy, hb⟩
theorem At.here {n s : List UInt8} {W acc : Ls} {i : Nat} (h : At n s W i false acc) (hi : i < W.length) (hb : bf n W[i].1 = true) : At n s W (i + 1) true (acc ++ [(n, s)] ++ [W[i]]) := by
 obtain ⟨rfl, h2⟩ := (show _ ∧ _ from h)
 show _ ∧ _
 rw [List.take_succ_eq_append_getElem hi]
 exact ⟨(ins_here h2 hb).symm, W[i], List.mem_append_right _ (List.mem_singleton.2 rfl), hb⟩
theorem At.on {n s : List UInt8} {W acc : Ls} {i : Nat} (h : At n s W i false acc) (hi : i < W.length) (hb : bf n W[i].1 = false) : At n s W (i + 1) false (acc ++ [W[i]]) := by
 obtain ⟨rfl, h2⟩ := (show _ ∧ _ from h)
 show _ ∧ _
 rw [List.take_succ_eq_append_getElem hi]
 refine ⟨rfl, fun y hy => ?_⟩
 rcases List.mem_append.1 hy with hy | hy
 · exact h2 y hy
 · rw [List.mem_singleton.1 hy]; exact hb
theorem At.done {n s : List UInt8} {W acc : Ls} (h : At n s W W.length true acc) : acc = ins n s W := by
 have := (show _ ∧ _ from h).1
 rwa [List.take_length] at this
theorem At.last {n s : List UInt8} {W acc : Ls} (h : At n s W W.length false acc) : acc ++ [(n, s)] = ins n s W := by
 obtain ⟨h1, h2⟩ := (show _ ∧ _ from h)
 rw [List.take_length] at h1 h2
 rw [h1, ins_last h2]
theorem bl_bf : ∀ x y : List UInt8, Op.bytesLess x y = bf x y
 | [], [] => rfl
 | [], _ :: _ => rfl
 | _ :: _, [] => rfl
 | a :: x, b :: y => by
   show (decide (a < b) || (a == b && Op.bytesLess x y)) = (decide (a < b) || (a == b && bytesBefore x y))
   rw [show Op.bytesLess x y = bytesBefore x y from bl_bf x y]
theorem gt_bf (a b : ByteArray) : (!Op.bytesLess a.toList b.toList && !a.toList == b.toList) = bf b.data.toList a.data.toList := by
 rw [ByteArray.toList_eq, ByteArray.toList_eq, bl_bf]
 by_cases e : a.data.toList = b.data.toList
 · rw [e, bf_irrefl]; simp
 · have h1 : (a.data.toList == b.data.toList) = false := beq_eq_false_iff_ne.2 e
   rw [h1]
   rcases bf_total e with h | h
   · have : bf b.data.toList a.data.toList = false := by
      cases q : bf b.data.toList a.data.toList with
      | false => rfl
      | true => have := bf_trans h q; rw [bf_irrefl] at this; cases this
     rw [h, this]; rfl
   · have : bf a.data.toList b.data.toList = false := by
      cases q : bf a.data.toList b.data.toList with
      | false => rfl
      | true => have := bf_trans h q; rw [bf_irrefl] at this; cases this
     rw [h, this]; rfl
end Go.Proofs.Ytchmepalhldpcaa.Dk

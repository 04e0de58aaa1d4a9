/-
  The stable sort, plain: runs of one length, one behind the other.
-/
import Derived.Test.YtgakcpcpfkoaiaaStMath
namespace Go.Proofs.Ytgakcpcpfkoaiaa.St
open Go.Sort
variable {α : Type} [Inhabited α] {lt : α → α → Bool}

/-- From a on all runs of bs are sorted. -/
inductive Runs (lt : α → α → Bool) (bs n : Nat) (d : Array α) : Nat → Prop
  | fin {a : Nat} (h : n ≤ a) : Runs lt bs n d a
  | run {a : Nat} (h : SortedIn lt a (min (a + bs) n) d) (t : Runs lt bs n d (a + bs)) : Runs lt bs n d a
/-- Up to a all runs of bs are sorted. -/
inductive Done (lt : α → α → Bool) (bs : Nat) (d : Array α) : Nat → Prop
  | zero : Done lt bs d 0
  | run {a : Nat} (h : Done lt bs d a) (t : SortedIn lt a (a + bs) d) : Done lt bs d (a + bs)
theorem Runs.open {bs n a : Nat} {d : Array α} (h : Runs lt bs n d a) (ha : a < n) : SortedIn lt a (min (a + bs) n) d ∧ Runs lt bs n d (a + bs) := by
  cases h with
  | fin h => omega
  | run h t => exact ⟨h, t⟩
theorem Runs.same {bs n a : Nat} {d d' : Array α} (h : Runs lt bs n d a) (he : ∀ i, a ≤ i → d'[i]! = d[i]!) : Runs lt bs n d' a := by
  induction h with
  | fin h => exact .fin h
  | run h t ih => exact .run (si_same h fun i i1 _ => he i i1) (ih fun i hi => he i (by omega))
theorem Done.same {bs a : Nat} {d d' : Array α} (h : Done lt bs d a) (he : ∀ i, i < a → d'[i]! = d[i]!) : Done lt bs d' a := by
  induction h with
  | zero => exact .zero
  | run h t ih => exact .run (ih fun i hi => he i (by omega)) (si_same t fun i _ i2 => he i i2)
theorem Done.all {bs n a : Nat} {d : Array α} (h : Done lt bs d a) (hr : Runs lt bs n d a) (ha : a ≤ n) : Runs lt bs n d 0 := by
  induction h with
  | zero => exact hr
  | run h t ih => exact ih (.run (si_part t (Nat.le_refl _) (by omega)) hr) (by omega)
theorem Runs.last {bs n a : Nat} {d : Array α} (h : SortedIn lt a n d) (hb : n ≤ a + bs) : Runs lt bs n d a := .run (si_part h (Nat.le_refl _) (by omega)) (.fin hb)
/-- The same, in another order, what is alike as it stood. -/
def Pm (lt : α → α → Bool) (d d' : Array α) : Prop := PermIn 0 d.size d d' ∧ Stab lt d d'
theorem Pm.refl (d : Array α) : Pm lt d d := ⟨permIn_refl d 0 d.size, Stab.refl d⟩
theorem Pm.next {d d1 d2 : Array α} {a b : Nat} (h : Pm lt d d1) (k : Srt lt a b d1 d2) (hb : b ≤ d.size) : Pm lt d d2 :=
  ⟨permIn_trans _ _ _ _ _ h.1 (permIn_mono _ _ a b 0 d.size (Nat.zero_le _) hb (by rw [h.1.1]; exact Nat.le_refl _) k.perm), h.2.trans k.stab⟩
theorem Pm.done {d d' : Array α} (h : Pm lt d d') (ho : SortedIn lt 0 d.size d') : Srt lt 0 d.size d d' := ⟨h.1, h.2, ho⟩
end Go.Proofs.Ytgakcpcpfkoaiaa.St

/-
  Pairs, plain: their order, the stable sort of a list (sr), what fixes it.
-/
import Derived.Test.YtgakcpcpfkoaiaaVaMath
import Derived.Test.YtgakcpcpfkoaiaaStMath
namespace Go.Proofs.Ytgakcpcpfkoaiaa.Pr
open Go.Proofs.Ytgakcpcpfkoaiaa.Va Go.Proofs.Ytgakcpcpfkoaiaa.St Go.Sort

/-- A pair: its key, its value. -/
abbrev Pr := List UInt8 × Va
def pz : Pr := ([], ⟨0, 0, [], 0, 0⟩)
instance : Inhabited Pr := ⟨pz⟩
/-- What byKey answers. -/
def ck (a b : Pr) : Int := cS a.1 b.1
/-- Does one come ahead of the other? -/
def kl (a b : Pr) : Bool := Op.bytesLess a.1 b.1
theorem ck_kl (a b : Pr) : decide (ck a b < 0) = kl a b := by
  unfold ck kl cS
  rcases less_total a.1 b.1 with h | h | h
  · rw [if_pos h, h]; rfl
  · rw [if_neg (by rw [less_asymm h]; simp), if_pos h, less_asymm h]; rfl
  · rw [h, less_irrefl]; rfl
theorem swo : SWO kl where
  irrefl := fun x => less_irrefl x.1
  trans := fun x y z h1 h2 => less_trans h1 h2
  ntrans := fun x y z h1 h2 => by
    cases h : kl x z with
    | false => rfl
    | true =>
      rcases less_total y.1 z.1 with g | g | g
      · rcases less_total x.1 y.1 with f | f | f
        · exact absurd (show kl x y = true from f) (by rw [h1]; simp)
        · exact absurd (show kl y z = true from g) (by rw [h2]; simp)
        · exact absurd (show kl y z = true from g) (by rw [h2]; simp)
      · have := less_trans (show Op.bytesLess x.1 z.1 = true from h) g
        exact absurd (show kl x y = true from this) (by rw [h1]; simp)
      · have e : kl x y = kl x z := by unfold kl; rw [g]
        rw [← e, h1] at h; cases h
/-- None comes ahead of one that stands ahead of it. -/
def Od (l : List Pr) : Prop := l.Pairwise fun a b => kl b a = false
/-- Those of one key. -/
def ky (k : List UInt8) (l : List Pr) : List Pr := l.filter fun p => decide (p.1 = k)
theorem cls_key (k : List UInt8) : Cls kl fun p => decide (p.1 = k) := fun x y hx hy => by
  have e1 := of_decide_eq_true hx; have e2 := of_decide_eq_true hy
  unfold kl; rw [e1, e2]; exact less_irrefl k
/-- One pair set ahead of all that don't come ahead of it. -/
def insb (p : Pr) : List Pr → List Pr
  | [] => [p]
  | x :: t => if kl x p = true then x :: insb p t else p :: x :: t
/-- Sorted. -/
def sr : List Pr → List Pr
  | [] => []
  | p :: t => insb p (sr t)
theorem insb_mem (p x : Pr) (l : List Pr) : x ∈ insb p l ↔ x = p ∨ x ∈ l := by
  induction l with
  | nil => simp [insb]
  | cons y t ih =>
    unfold insb
    split
    · rw [List.mem_cons, ih, List.mem_cons]
      constructor
      · rintro (h | h | h) <;> simp [h]
      · rintro (h | h | h) <;> simp [h]
    · rw [List.mem_cons]
theorem insb_od (p : Pr) (l : List Pr) (h : Od l) : Od (insb p l) := by
  induction l with
  | nil => exact List.pairwise_singleton _ _
  | cons x t ih =>
    obtain ⟨h1, h2⟩ := List.pairwise_cons.1 h
    unfold insb
    split
    · rename_i hc
      refine List.pairwise_cons.2 ⟨fun y hy => ?_, ih h2⟩
      rcases (insb_mem p y t).1 hy with rfl | hy
      · exact swo.asymmA hc
      · exact h1 y hy
    · rename_i hc
      refine List.pairwise_cons.2 ⟨fun y hy => ?_, h⟩
      rcases List.mem_cons.1 hy with rfl | hy
      · simpa using hc
      · exact swo.ntrans _ _ _ (h1 y hy) (by simpa using hc)
theorem insb_ky (p : Pr) (l : List Pr) (k : List UInt8) : ky k (insb p l) = ky k (p :: l) := by
  induction l with
  | nil => rfl
  | cons x t ih =>
    unfold insb
    split
    · rename_i hc
      unfold ky at ih ⊢
      by_cases hx : x.1 = k
      · have hp : p.1 ≠ k := fun e => by
          have : kl x p = false := by unfold kl; rw [hx, e]; exact less_irrefl k
          rw [this] at hc; cases hc
        simp only [List.filter_cons, ih]
        simp [hx, hp]
      · simp only [List.filter_cons, ih]
        simp [hx]
    · rfl
theorem sr_od (l : List Pr) : Od (sr l) := by
  induction l with
  | nil => exact List.Pairwise.nil
  | cons p t ih => exact insb_od p _ ih
theorem sr_ky (l : List Pr) (k : List UInt8) : ky k (sr l) = ky k l := by
  induction l with
  | nil => rfl
  | cons p t ih =>
    show ky k (insb p (sr t)) = _
    rw [insb_ky]
    unfold ky at ih ⊢
    rw [List.filter_cons, List.filter_cons, ih]
/-- Two lists in order, with the same pairs of each key in the same order, are the same. -/
theorem od_uniq (l m : List Pr) (hl : Od l) (hm : Od m) (h : ∀ k, ky k l = ky k m) : l = m := by
  have none : ∀ (l : List Pr) (k : List UInt8), (∀ x ∈ l, x.1 ≠ k) → ky k l = [] := fun l k hk => List.filter_eq_nil_iff.2 fun x hx => by simpa using hk x hx
  have key : ∀ (x : Pr) (l : List Pr), ky x.1 (x :: l) = x :: ky x.1 l := fun x l => List.filter_cons_of_pos (by simp)
  induction l generalizing m with
  | nil => cases m with
    | nil => rfl
    | cons y t => have := h y.1; rw [key] at this; cases this
  | cons x t ih =>
    cases m with
    | nil => have := h x.1; rw [key] at this; cases this
    | cons y u =>
      obtain ⟨a1, a2⟩ := List.pairwise_cons.1 hl
      obtain ⟨b1, b2⟩ := List.pairwise_cons.1 hm
      have e : x.1 = y.1 := by
        rcases less_total x.1 y.1 with g | g | g
        · have := h x.1
          rw [key, none (y :: u) x.1 fun z hz e => by
            rcases List.mem_cons.1 hz with rfl | hz
            · rw [e, less_irrefl] at g; cases g
            · have := b1 z hz
              unfold kl at this; rw [e, g] at this; cases this] at this
          cases this
        · have := h y.1
          rw [key, none (x :: t) y.1 fun z hz e => by
            rcases List.mem_cons.1 hz with rfl | hz
            · rw [e, less_irrefl] at g; cases g
            · have := a1 z hz
              unfold kl at this; rw [e, g] at this; cases this] at this
          cases this
        · exact g
      have hx := h x.1
      rw [key] at hx
      rw [e, key] at hx
      obtain ⟨e1, _⟩ := List.cons.inj hx
      subst e1
      congr 1
      refine ih u a2 b2 fun k => ?_
      have := h k
      unfold ky at this ⊢
      rw [List.filter_cons, List.filter_cons] at this
      split at this
      · exact (List.cons.inj this).2
      · exact this
theorem sr_uniq (l m : List Pr) (hl : Od l) (h : ∀ k, ky k l = ky k m) : l = sr m := od_uniq l (sr m) hl (sr_od m) fun k => by rw [h k, sr_ky]
theorem sr_self (l : List Pr) (hl : Od l) : sr l = l := (sr_uniq l l hl fun _ => rfl).symm
theorem ky_append (k : List UInt8) (a b : List Pr) : ky k (a ++ b) = ky k a ++ ky k b := List.filter_append ..
theorem sr_len (l : List Pr) : (sr l).length = l.length := by
  have insl : ∀ (p : Pr) (l : List Pr), (insb p l).length = l.length + 1 := fun p l => by
    induction l with
    | nil => rfl
    | cons x t ih => unfold insb; split <;> simp [ih]
  induction l with
  | nil => rfl
  | cons p t ih => show (insb p (sr t)).length = _; rw [insl, ih]; rfl
theorem sr_mem (l : List Pr) (x : Pr) : x ∈ sr l ↔ x ∈ l := by
  have e : ∀ l : List Pr, x ∈ l ↔ x ∈ ky x.1 l := fun l => by simp [ky]
  rw [e, sr_ky, ← e]
theorem sr_count (l : List Pr) (x : Pr) : (sr l).count x = l.count x := by
  have e : ∀ l : List Pr, l.count x = (ky x.1 l).count x := fun l => by
    unfold ky; rw [List.count_filter (by simp)]
  rw [e, sr_ky, ← e]
/-- Sorting lists, then joining them. -/
theorem sr_join3 (a b c : List Pr) : sr (sr a ++ sr b ++ sr c) = sr (a ++ b ++ c) := sr_uniq _ _ (sr_od _) fun k => by
  rw [sr_ky, ky_append, ky_append, ky_append, ky_append, sr_ky, sr_ky, sr_ky]
theorem sr_join2 (a b c : List Pr) : sr (sr (a ++ b) ++ c) = sr (a ++ b ++ c) := sr_uniq _ _ (sr_od _) fun k => by
  rw [sr_ky, ky_append, ky_append, sr_ky]
theorem sr_sr (l : List Pr) : sr (sr l) = sr l := sr_self _ (sr_od l)
/-- What the stable sort in memory makes is it. -/
theorem sr_of_srt {d d' : Array Pr} (h : Srt kl 0 d.size d d') : d'.toList = sr d.toList := by
  refine sr_uniq _ _ ?_ fun k => h.stab _ (cls_key k)
  rw [Od, List.pairwise_iff_getElem]
  intro i j hi hj hij
  have e := h.ord i j (Nat.zero_le _) hij (by rw [← h.size]; simpa using hj)
  rw [getElem!_pos d' i (by simpa using hi), getElem!_pos d' j (by simpa using hj)] at e
  simpa using e
end Go.Proofs.Ytgakcpcpfkoaiaa.Pr

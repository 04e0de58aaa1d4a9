/-
  A text of this claim: SoMath.
-/
import Derived.Test.YtamhfjlffacakaaQ2
namespace Go.Proofs.Ytamhfjlffacakaa.So
open Va St Pr Go.Sort
section heap
variable (lt : Nat → Nat → Bool)
def sw (f : Nat → Nat) (a b : Nat) : Nat → Nat := fun k => if k = a then f b else if k = b then f a else f k
def Hp (f : Nat → Nat) (n : Nat) : Prop := ∀ i, 0 < i → i < n → lt (f i) (f ((i - 1) / 2)) = false
def Up (f : Nat → Nat) (n a : Nat) : Prop :=
 (∀ i, 0 < i → i < n → i ≠ a → lt (f i) (f ((i - 1) / 2)) = false) ∧ (∀ i, 0 < i → i < n → (i - 1) / 2 = a → 0 < a → lt (f i) (f ((a - 1) / 2)) = false)
def Dn (f : Nat → Nat) (n a : Nat) : Prop :=
 (∀ i, 0 < i → i < n → (i - 1) / 2 ≠ a → lt (f i) (f ((i - 1) / 2)) = false) ∧ (∀ i, 0 < i → i < n → (i - 1) / 2 = a → 0 < a → lt (f i) (f ((a - 1) / 2)) = false)
variable {lt} {f : Nat → Nat} {n a : Nat}
theorem up_done (h : Up lt f n a) (ha : a = 0 ∨ lt (f a) (f ((a - 1) / 2)) = false) : Hp lt f n := fun i h0 hn => by
 by_cases e : i = a
 · subst e
   rcases ha with e | e
   · omega
   · exact e
 · exact h.1 i h0 hn e
theorem up_step (w : SWO lt) (h : Up lt f n a) (hn : a < n) (h0 : 0 < a) (hl : lt (f a) (f ((a - 1) / 2)) = true) : Up lt (sw f a ((a - 1) / 2)) n ((a - 1) / 2) := by
 obtain ⟨p, hp⟩ : ∃ p, p = (a - 1) / 2 := ⟨_, rfl⟩
 rw [← hp] at hl ⊢
 have hpa : p < a := by omega
 have hasy := w.asymmA hl
 have ga : sw f a p a = f p := by simp [sw]
 have gp : sw f a p p = f a := by unfold sw; rw [if_neg (by omega), if_pos rfl]
 have go : ∀ k, k ≠ a → k ≠ p → sw f a p k = f k := fun k h1 h2 => by unfold sw; rw [if_neg h1, if_neg h2]
 refine ⟨fun i i0 hi hne => ?_, fun i i0 hi hpar p0 => ?_⟩
 · by_cases e : i = a
   · subst e; rw [ga, ← hp, gp]; exact hasy
   · rw [go i e hne]
     by_cases e1 : (i - 1) / 2 = a
     · rw [e1, ga]; have := h.2 i i0 hi e1 h0; rwa [← hp] at this
     · by_cases e2 : (i - 1) / 2 = p
       · rw [e2, gp]
         have := h.1 i i0 hi e
         rw [e2] at this
         exact w.ntrans _ _ _ this hasy
       · rw [go _ e1 e2]; exact h.1 i i0 hi e
 · have hpp : (p - 1) / 2 < p := by omega
   rw [go ((p - 1) / 2) (by omega) (by omega)]
   have hp1 := h.1 p p0 (by omega) (by omega)
   by_cases e : i = a
   · subst e; rw [ga]; exact hp1
   · rw [go i e (by omega)]
     have := h.1 i i0 hi e
     rw [hpar] at this
     exact w.ntrans _ _ _ this hp1
theorem dn_done (h : Dn lt f n a) (ha : ∀ i, 0 < i → i < n → (i - 1) / 2 = a → lt (f i) (f a) = false) : Hp lt f n := fun i h0 hn => by
 by_cases e : (i - 1) / 2 = a
 · rw [e]; exact ha i h0 hn e
 · exact h.1 i h0 hn e
theorem dn_step {c : Nat} (h : Dn lt f n a) (hc : c < n) (hca : (c - 1) / 2 = a) (h0 : 0 < c) (hl : lt (f a) (f c) = false) (hm : ∀ i, 0 < i → i < n → (i - 1) / 2 = a → lt (f i) (f c) = false) : Dn lt (sw f a c) n c := by
 have hac : a < c := by omega
 have ga : sw f a c a = f c := by simp [sw]
 have gc : sw f a c c = f a := by unfold sw; rw [if_neg (by omega), if_pos rfl]
 have go : ∀ k, k ≠ a → k ≠ c → sw f a c k = f k := fun k h1 h2 => by unfold sw; rw [if_neg h1, if_neg h2]
 refine ⟨fun i i0 hi hne => ?_, fun i i0 hi hpar c0 => ?_⟩
 · by_cases e : i = c
   · subst e; rw [gc, hca, ga]; exact hl
   · by_cases e1 : i = a
     · subst e1
       rw [ga, go _ (by omega) (by omega)]
       exact h.2 c h0 hc hca i0
     · rw [go i e1 e]
       by_cases e2 : (i - 1) / 2 = a
       · rw [e2, ga]; exact hm i i0 hi e2
       · rw [go _ e2 hne]; exact h.1 i i0 hi e2
 · rw [hca, ga, go i (by omega) (by omega)]
   have := h.1 i i0 hi (by omega)
   rwa [hpar] at this
theorem hp_least (w : SWO lt) (h : Hp lt f n) : ∀ i, i < n → lt (f i) (f 0) = false := fun i => by
 induction i using Nat.strongRecOn with
 | ind i ih =>
   intro hi
   by_cases e : i = 0
   · subst e; exact w.irrefl _
   · exact w.ntrans _ _ _ (h i (by omega) hi) (ih ((i - 1) / 2) (by omega) (by omega))
theorem dn_start (h : Hp lt f n) : Dn lt (fun k => if k = 0 then f (n - 1) else f k) (n - 1) 0 := by
 refine ⟨fun i i0 hi hne => ?_, fun i i0 hi hpar h0 => absurd h0 (Nat.lt_irrefl _)⟩
 show lt (if i = 0 then _ else f i) (if (i - 1) / 2 = 0 then _ else f ((i - 1) / 2)) = false
 rw [if_neg (by omega), if_neg hne]
 exact h i i0 (by omega)
theorem up_start (h : Hp lt f n) (x : Nat) : Up lt (fun k => if k = n then x else f k) (n + 1) n := by
 refine ⟨fun i i0 hi hne => ?_, fun i i0 hi hpar h0 => by omega⟩
 show lt (if i = n then _ else f i) (if (i - 1) / 2 = n then _ else f ((i - 1) / 2)) = false
 rw [if_neg hne, if_neg (by omega)]
 exact h i i0 (by omega)
theorem hp_congr {lt' : Nat → Nat → Bool} (h : Hp lt f n) (he : ∀ i j, i < n → j < n → lt' (f i) (f j) = lt (f i) (f j)) : Hp lt' f n := fun i h0 hi => by
 rw [he i _ hi (by omega)]; exact h i h0 hi
def Inj (f : Nat → Nat) (n : Nat) : Prop := ∀ i j, i < n → j < n → f i = f j → i = j
def In (f : Nat → Nat) (n r : Nat) : Prop := ∃ i, i < n ∧ f i = r
theorem sw_sw (f : Nat → Nat) (a b : Nat) (k : Nat) : sw (sw f a b) a b k = f k := by
 unfold sw
 by_cases h1 : k = a
 · subst h1
   by_cases h2 : b = k
   · subst h2; simp
   · simp [h2]
 · by_cases h2 : k = b
   · subst h2; simp [h1]
   · simp [h1, h2]
theorem sw_as (f : Nat → Nat) (a b k : Nat) : sw f a b k = f (if k = a then b else if k = b then a else k) := by
 unfold sw; split
 · rfl
 · split <;> rfl
theorem sw_in {b : Nat} (ha : a < n) (hb : b < n) (r : Nat) : In (sw f a b) n r ↔ In f n r := by
 have one : ∀ g : Nat → Nat, In (sw g a b) n r → In g n r := fun g ⟨i, hi, e⟩ => by
  rw [sw_as] at e
  exact ⟨_, by split; exact hb; split; exact ha; exact hi, e⟩
 refine ⟨one f, fun h => one (sw f a b) ?_⟩
 obtain ⟨i, hi, e⟩ := h
 exact ⟨i, hi, by rw [sw_sw]; exact e⟩
theorem sw_inj {b : Nat} (ha : a < n) (hb : b < n) (h : Inj f n) : Inj (sw f a b) n := fun i j hi hj e => by
 rw [sw_as, sw_as] at e
 have := h _ _ (by split; exact hb; split; exact ha; exact hi) (by split; exact hb; split; exact ha; exact hj) e
 split at this <;> split at this <;> (try split at this) <;> (try split at this) <;> omega
theorem drop_inj (h : Inj f n) : Inj (fun k => if k = 0 then f (n - 1) else f k) (n - 1) := fun i j hi hj e => by
 dsimp only at e
 split at e <;> split at e
 · omega
 · have := h _ _ (by omega) (by omega) e; omega
 · have := h _ _ (by omega) (by omega) e; omega
 · exact h _ _ (by omega) (by omega) e
theorem drop_in (h : Inj f n) (h0 : 0 < n) (r : Nat) : In (fun k => if k = 0 then f (n - 1) else f k) (n - 1) r ↔ In f n r ∧ r ≠ f 0 := by
 constructor
 · rintro ⟨i, hi, e⟩
   dsimp only at e
   split at e
   · exact ⟨⟨n - 1, by omega, e⟩, fun hr => by have := h (n - 1) 0 (by omega) h0 (e.trans hr); omega⟩
   · exact ⟨⟨i, by omega, e⟩, fun hr => by have := h i 0 (by omega) h0 (e.trans hr); omega⟩
 · rintro ⟨⟨i, hi, e⟩, hr⟩
   have i0 : i ≠ 0 := fun h => by subst h; exact hr e.symm
   by_cases hl : i = n - 1
   · exact ⟨0, by omega, by dsimp only; rw [if_pos rfl, ← hl]; exact e⟩
   · exact ⟨i, by omega, by dsimp only; rw [if_neg i0]; exact e⟩
theorem more_inj (h : Inj f n) {x : Nat} (hx : ¬ In f n x) : Inj (fun k => if k = n then x else f k) (n + 1) := fun i j hi hj e => by
 dsimp only at e
 split at e <;> split at e
 · omega
 · exact absurd ⟨j, by omega, e.symm⟩ hx
 · exact absurd ⟨i, by omega, e⟩ hx
 · exact h _ _ (by omega) (by omega) e
theorem more_in {x : Nat} (r : Nat) : In (fun k => if k = n then x else f k) (n + 1) r ↔ In f n r ∨ r = x := by
 constructor
 · rintro ⟨i, hi, e⟩
   dsimp only at e
   split at e
   · exact .inr e.symm
   · exact .inl ⟨i, by omega, e⟩
 · rintro (⟨i, hi, e⟩ | e)
   · exact ⟨i, by omega, by dsimp only; rw [if_neg (by omega)]; exact e⟩
   · exact ⟨n, by omega, by dsimp only; rw [if_pos rfl]; exact e.symm⟩
end heap
def rn (rs : List (List Pr)) (r : Nat) : List Pr := (rs[r]?).getD []
def hd (rs : List (List Pr)) (d : Nat → Nat) (r : Nat) : Pr := ((rn rs r)[d r]?).getD pz
def ah (rs : List (List Pr)) (d : Nat → Nat) (a b : Nat) : Bool := kl (hd rs d a) (hd rs d b) || (!kl (hd rs d b) (hd rs d a) && decide (a < b))
theorem ah_swo (rs : List (List Pr)) (d : Nat → Nat) : SWO (ah rs d) where
 irrefl := fun x => by simp [ah, swo.irrefl]
 trans := fun x y z h1 h2 => by
  unfold ah at *
  simp only [Bool.or_eq_true, Bool.and_eq_true, Bool.not_eq_true', decide_eq_true_eq] at *
  rcases h1 with h1 | ⟨h1, k1⟩
  · rcases h2 with h2 | ⟨h2, k2⟩
    · exact .inl (swo.trans _ _ _ h1 h2)
    · left
      cases e : kl (hd rs d x) (hd rs d z) with
      | true => rfl
      | false => have := swo.ntrans _ _ _ e h2; rw [this] at h1; cases h1
  · rcases h2 with h2 | ⟨h2, k2⟩
    · left
      cases e : kl (hd rs d x) (hd rs d z) with
      | true => rfl
      | false => have := swo.ntrans _ _ _ h1 e; rw [this] at h2; cases h2
    · exact .inr ⟨swo.ntrans _ _ _ h2 h1, by omega⟩
 ntrans := fun x y z h1 h2 => by
  unfold ah at *
  simp only [Bool.or_eq_false_iff, Bool.and_eq_false_iff, Bool.not_eq_false', decide_eq_false_iff_not] at *
  obtain ⟨a1, b1⟩ := h1
  obtain ⟨a2, b2⟩ := h2
  refine ⟨swo.ntrans _ _ _ a1 a2, ?_⟩
  rcases b1 with b1 | b1
  · left
    cases e : kl (hd rs d z) (hd rs d x) with
    | true => rfl
    | false => have := swo.ntrans _ _ _ a2 e; rw [this] at b1; cases b1
  · rcases b2 with b2 | b2
    · left
      cases e : kl (hd rs d z) (hd rs d x) with
      | true => rfl
      | false => have := swo.ntrans _ _ _ e a1; rw [this] at b2; cases b2
    · exact .inr (by omega)
def lft (rs : List (List Pr)) (d : Nat → Nat) (n : Nat) : List Pr := (List.range n).flatMap fun r => (rn rs r).drop (d r)
theorem lft_succ (rs : List (List Pr)) (d : Nat → Nat) (n : Nat) : lft rs d (n + 1) = lft rs d n ++ (rn rs n).drop (d n) := by
 unfold lft; rw [List.range_succ, List.flatMap_append]; simp
def nx (d : Nat → Nat) (r : Nat) : Nat → Nat := fun k => if k = r then d r + 1 else d k
theorem lft_mem {rs : List (List Pr)} {d : Nat → Nat} {n : Nat} {y : Pr} (h : y ∈ lft rs d n) : ∃ r, r < n ∧ y ∈ (rn rs r).drop (d r) := by
 unfold lft at h
 obtain ⟨r, hr, hy⟩ := List.mem_flatMap.1 h
 exact ⟨r, by simpa using hr, hy⟩
theorem hd_cons {rs : List (List Pr)} {d : Nat → Nat} {r : Nat} (h : d r < (rn rs r).length) : (rn rs r).drop (d r) = hd rs d r :: (rn rs r).drop (d r + 1) := by
 rw [List.drop_eq_getElem_cons h]
 unfold hd
 rw [List.getElem?_eq_getElem h]; rfl
theorem hd_le {rs : List (List Pr)} {d : Nat → Nat} {r : Nat} (ho : Od (rn rs r)) {y : Pr} (hy : y ∈ (rn rs r).drop (d r)) : d r < (rn rs r).length ∧ kl y (hd rs d r) = false := by
 have hl : d r < (rn rs r).length := by
  have := List.length_pos_of_mem hy
  rw [List.length_drop] at this; omega
 refine ⟨hl, ?_⟩
 have hO : Od ((rn rs r).drop (d r)) := List.Pairwise.sublist (List.drop_sublist _ _) ho
 rw [hd_cons hl] at hy hO
 rcases List.mem_cons.1 hy with rfl | hy
 · exact swo.irrefl _
 · exact (List.pairwise_cons.1 hO).1 y hy
theorem next_sr {rs : List (List Pr)} {d : Nat → Nat} {r0 : Nat} (ho : ∀ r, r < rs.length → Od (rn rs r)) (h0 : r0 < rs.length) (hl : d r0 < (rn rs r0).length)
 (hm : ∀ r, r < rs.length → d r < (rn rs r).length → ah rs d r r0 = false) : sr (lft rs d rs.length) = hd rs d r0 :: sr (lft rs (nx d r0) rs.length) := by
 symm
 have hsub : ∀ r y, y ∈ (rn rs r).drop (nx d r0 r) → y ∈ (rn rs r).drop (d r) := fun r y hy => by
  unfold nx at hy
  split at hy
  · rename_i e; subst e; rw [hd_cons hl]; exact List.mem_cons_of_mem _ hy
  · exact hy
 have hle : ∀ r, r < rs.length → ∀ y, y ∈ (rn rs r).drop (d r) → kl y (hd rs d r0) = false := fun r hr y hy => by
  obtain ⟨h1, h2⟩ := hd_le (ho r hr) hy
  have := hm r hr h1
  unfold ah at this
  simp only [Bool.or_eq_false_iff] at this
  exact swo.ntrans _ _ _ h2 this.1
 refine sr_uniq _ _ (List.pairwise_cons.2 ⟨fun y hy => ?_, sr_od _⟩) fun k => ?_
 · obtain ⟨r, hr, hy⟩ := lft_mem ((sr_mem _ y).1 hy)
   exact hle r hr y (hsub r y hy)
 · have hcons : ∀ l, ky k (hd rs d r0 :: l) = ky k [hd rs d r0] ++ ky k l := fun l => by rw [← ky_append]; rfl
   rw [hcons, sr_ky]
   -- ahead of run r0
   have low : ∀ n, n ≤ r0 → lft rs (nx d r0) n = lft rs d n ∧ (ky k [hd rs d r0] = [] ∨ ky k (lft rs d n) = []) := by
    intro n
    induction n with
    | zero => intro _; exact ⟨rfl, .inr rfl⟩
    | succ n ih =>
      intro hn
      obtain ⟨e, hor⟩ := ih (by omega)
      have e1 : nx d r0 n = d n := by unfold nx; rw [if_neg (by omega)]
      rw [lft_succ, lft_succ, e, e1]
      refine ⟨rfl, ?_⟩
      rcases hor with hor | hor
      · exact .inl hor
      · by_cases hk : (hd rs d r0).1 = k
        · right
          rw [ky_append, hor, List.nil_append]
          refine List.filter_eq_nil_iff.2 fun y hy => ?_
          obtain ⟨h1, h2⟩ := hd_le (ho n (by omega)) hy
          have := hm n (by omega) h1
          unfold ah at this
          simp only [Bool.or_eq_false_iff, Bool.and_eq_false_iff, Bool.not_eq_false', decide_eq_false_iff_not] at this
          rcases this.2 with g | g
          · have hy2 : kl (hd rs d r0) y = true := by
             cases e : kl (hd rs d r0) y with
             | true => rfl
             | false => have := swo.ntrans _ _ _ e h2; rw [this] at g; cases g
            simp only [decide_eq_true_eq]
            intro e
            unfold kl at hy2
            rw [hk, e, less_irrefl] at hy2; cases hy2
          · omega
        · left; unfold ky; simp [hk]
   have high : ∀ m, ky k [hd rs d r0] ++ ky k (lft rs (nx d r0) (r0 + 1 + m)) = ky k (lft rs d (r0 + 1 + m)) := by
    intro m
    induction m with
    | zero =>
      obtain ⟨e, hor⟩ := low r0 (Nat.le_refl _)
      have e1 : nx d r0 r0 = d r0 + 1 := by unfold nx; rw [if_pos rfl]
      show ky k [hd rs d r0] ++ ky k (lft rs (nx d r0) (r0 + 1)) = ky k (lft rs d (r0 + 1))
      rw [lft_succ, lft_succ, e, e1, ky_append, ky_append, hd_cons hl, hcons ((rn rs r0).drop (d r0 + 1))]
      have e0 : ky k ([] : List Pr) = [] := rfl
      rcases hor with h | h
      · rw [h]; simp
      · rw [h, List.nil_append, List.nil_append]
    | succ m ih =>
      have e1 : nx d r0 (r0 + 1 + m) = d (r0 + 1 + m) := by unfold nx; rw [if_neg (by omega)]
      show ky k [hd rs d r0] ++ ky k (lft rs (nx d r0) (r0 + 1 + m + 1)) = ky k (lft rs d (r0 + 1 + m + 1))
      rw [lft_succ, lft_succ, ky_append, ky_append, e1, ← ih, List.append_assoc]
   have := high (rs.length - (r0 + 1))
   rwa [show r0 + 1 + (rs.length - (r0 + 1)) = rs.length by omega] at this
theorem lft_none {rs : List (List Pr)} {d : Nat → Nat} (n : Nat) (h : ∀ r, r < n → (rn rs r).length ≤ d r) : lft rs d n = [] := by
 induction n with
 | zero => rfl
 | succ n ih => rw [lft_succ, ih (fun r hr => h r (by omega)), List.drop_eq_nil_of_le (h n (by omega))]; rfl
theorem lft_all (rs : List (List Pr)) : lft rs (fun _ => 0) rs.length = rs.flatten := by
 have : ∀ n, n ≤ rs.length → lft rs (fun _ => 0) n = (rs.take n).flatten := by
  intro n
  induction n with
  | zero => intro _; rfl
  | succ n ih =>
    intro hn
    rw [lft_succ, ih (by omega), List.take_succ_eq_append_getElem (by omega), List.flatten_append]
    unfold rn
    rw [List.getElem?_eq_getElem (show n < rs.length by omega)]
    simp
 rw [this _ (Nat.le_refl _), List.take_length]
theorem ah_nx (rs : List (List Pr)) (d : Nat → Nat) (r0 a b : Nat) (ha : a ≠ r0) (hb : b ≠ r0) : ah rs (nx d r0) a b = ah rs d a b := by
 have e : ∀ x, x ≠ r0 → hd rs (nx d r0) x = hd rs d x := fun x hx => by unfold hd nx; rw [if_neg hx]
 unfold ah
 rw [e a ha, e b hb]
end Go.Proofs.Ytamhfjlffacakaa.So

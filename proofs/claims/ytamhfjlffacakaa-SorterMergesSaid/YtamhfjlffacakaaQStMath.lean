/-
  A text of this claim: StMath.
-/
import Derived.Sort.LotA
namespace Go.Proofs.Ytamhfjlffacakaa.St
open Go.Sort
section
variable {α : Type} [Inhabited α] {lt : α → α → Bool}
def Rot (a m b : Nat) (d d' : Array α) : Prop :=
 d'.size = d.size ∧ ∀ x, d'[x]! = if x < a then d[x]! else if x < a + (b - m) then d[x + (m - a)]! else if x < b then d[x - (b - m)]! else d[x]!
def Sw (a b n : Nat) (d d' : Array α) : Prop :=
 d'.size = d.size ∧ ∀ x, d'[x]! = if a ≤ x ∧ x < a + n then d[x - a + b]! else if b ≤ x ∧ x < b + n then d[x - b + a]! else d[x]!
omit [Inhabited α] in
theorem at_eq [Inhabited α] (d : Array α) {x y : Nat} (h : x = y) : d[x]! = d[y]! := by rw [h]
theorem Sw.zero (a b : Nat) (d : Array α) : Sw a b 0 d d := ⟨rfl, fun x => by rw [if_neg (by omega), if_neg (by omega)]⟩
theorem Sw.step {a b n : Nat} {d d1 : Array α} (h : Sw a b n d d1) (hab : a + n < b) (hb : b + n < d.size) : Sw a b (n + 1) d (swp d1 (a + n) (b + n)) := by
 refine ⟨by rw [size_swp]; exact h.1, fun x => ?_⟩
 rw [swp_get d1 (by rw [h.1]; omega) (by rw [h.1]; omega) x, h.2 x, h.2 (a + n), h.2 (b + n)]
 repeat' split
 all_goals first | omega | exact at_eq d (by omega)
theorem Rot.of_sw {m i : Nat} {d d' : Array α} (hi : i ≤ m) (h : Sw (m - i) m i d d') : Rot (m - i) m (m + i) d d' := by
 refine ⟨h.1, fun x => ?_⟩
 rw [h.2 x]
 repeat' split
 all_goals first | omega | exact at_eq d (by omega)
theorem Rot.more {m i j : Nat} {d d1 d' : Array α} (hij : j < i) (hi : i ≤ m) (h : Sw (m - i) m j d d1) (h' : Rot (m - (i - j)) m (m + j) d1 d') : Rot (m - i) m (m + j) d d' := by
 refine ⟨h'.1.trans h.1, fun x => ?_⟩
 rw [h'.2 x, h.2 x, h.2 (x + (m - (m - (i - j)))), h.2 (x - (m + j - m))]
 repeat' split
 all_goals first | omega | exact at_eq d (by omega)
theorem Rot.less {m i j : Nat} {d d1 d' : Array α} (hij : i < j) (hi : i ≤ m) (h : Sw (m - i) (m + j - i) i d d1) (h' : Rot (m - i) m (m + (j - i)) d1 d') : Rot (m - i) m (m + j) d d' := by
 refine ⟨h'.1.trans h.1, fun x => ?_⟩
 rw [h'.2 x, h.2 x, h.2 (x + (m - (m - i))), h.2 (x - (m + (j - i) - m))]
 repeat' split
 all_goals first | omega | exact at_eq d (by omega)
theorem Rot.nil1 (m b : Nat) (d : Array α) : Rot m m b d d := ⟨rfl, fun x => by
 repeat' split
 all_goals first | omega | rfl | exact at_eq d (by omega)⟩
theorem Rot.nil2 (a m : Nat) (d : Array α) : Rot a m m d d := ⟨rfl, fun x => by
 repeat' split
 all_goals first | omega | rfl | exact at_eq d (by omega)⟩
theorem Rot.right {a k : Nat} {d d1 : Array α} (h : Rot a (a + 1) (k + 1) d d1) (hak : a ≤ k) (hk : k + 1 < d.size) : Rot a (a + 1) (k + 2) d (swp d1 k (k + 1)) := by
 refine ⟨by rw [size_swp]; exact h.1, fun x => ?_⟩
 rw [swp_get d1 (by rw [h.1]; omega) (by rw [h.1]; omega) x, h.2 x, h.2 k, h.2 (k + 1)]
 repeat' split
 all_goals first | omega | exact at_eq d (by omega)
theorem Rot.left {k m : Nat} {d d1 : Array α} (h : Rot (k + 1) m (m + 1) d d1) (hkm : k < m) (hm : m < d.size) : Rot k m (m + 1) d (swp d1 (k + 1) k) := by
 refine ⟨by rw [size_swp]; exact h.1, fun x => ?_⟩
 rw [swp_get d1 (by rw [h.1]; omega) (by rw [h.1]; omega) x, h.2 x, h.2 k, h.2 (k + 1)]
 repeat' split
 all_goals first | omega | exact at_eq d (by omega)
theorem toList_map (d : Array α) : d.toList = (List.range' 0 d.size).map (fun i => d[i]!) := by
 have h := extract_toList d 0 d.size (Nat.le_refl _)
 rw [Array.extract_size] at h
 exact h
theorem range_cut (a b c : Nat) (hab : a ≤ b) (hbc : b ≤ c) : List.range' a (c - a) = List.range' a (b - a) ++ List.range' b (c - b) := by
 have h := List.range'_append_1 (s := a) (m := b - a) (n := c - b)
 rw [show a + (b - a) = b by omega, show b - a + (c - b) = c - a by omega] at h
 exact h.symm
def seg (d : Array α) (a b : Nat) : List α := (List.range' a (b - a)).map (fun i => d[i]!)
theorem seg_cut (d : Array α) {a b c : Nat} (hab : a ≤ b) (hbc : b ≤ c) : seg d a c = seg d a b ++ seg d b c := by
 unfold seg; rw [range_cut a b c hab hbc, List.map_append]
theorem mem_seg {d : Array α} {a b : Nat} {x : α} (h : x ∈ seg d a b) : ∃ i, a ≤ i ∧ i < b ∧ d[i]! = x := by
 obtain ⟨i, hi, e⟩ := List.mem_map.1 h
 have := List.mem_range'_1.1 hi
 exact ⟨i, this.1, by omega, e⟩
theorem seg_same {d d' : Array α} {a b : Nat} (h : ∀ i, a ≤ i → i < b → d'[i]! = d[i]!) : seg d' a b = seg d a b :=
 List.map_congr_left fun i hi => by have := List.mem_range'_1.1 hi; exact h i this.1 (by omega)
theorem seg_moved {d d' : Array α} (a a' n : Nat) (h : ∀ k, k < n → d'[a' + k]! = d[a + k]!) : seg d' a' (a' + n) = seg d a (a + n) := by
 unfold seg
 refine List.ext_getElem (by simp) fun k h1 h2 => ?_
 have hk : k < n := by simp at h1; omega
 simpa using h k hk
theorem Rot.segs {a m b : Nat} {d d' : Array α} (h : Rot a m b d d') (ham : a ≤ m) (hmb : m ≤ b) : seg d' a b = seg d m b ++ seg d a m := by
 rw [seg_cut d' (b := a + (b - m)) (by omega) (by omega)]
 congr 1
 · have e := seg_moved (d := d) (d' := d') m a (b - m) fun k hk => by
    rw [h.2, if_neg (by omega), if_pos (by omega)]; exact at_eq d (by omega)
   rw [show m + (b - m) = b by omega] at e; exact e
 · have e := seg_moved (d := d) (d' := d') a (a + (b - m)) (m - a) fun k hk => by
    rw [h.2, if_neg (by omega), if_neg (by omega), if_pos (by omega)]; exact at_eq d (by omega)
   rw [show a + (m - a) = m by omega, show a + (b - m) + (m - a) = b by omega] at e; exact e
theorem Rot.perm {a m b : Nat} {d d' : Array α} (h : Rot a m b d d') (ham : a ≤ m) (hmb : m ≤ b) (hb : b ≤ d.size) : PermIn a b d d' := by
 refine ⟨h.1, fun i hi => ?_, ?_⟩
 · rw [h.2]; repeat' split
   all_goals first | omega | rfl
 · rw [extract_toList _ _ _ (by rw [h.1]; exact hb), extract_toList _ _ _ hb]
   show (seg d' a b).Perm (seg d a b)
   rw [h.segs ham hmb, seg_cut d ham hmb]
   exact List.perm_append_comm
def Cls (lt : α → α → Bool) (p : α → Bool) : Prop := ∀ x y, p x = true → p y = true → lt x y = false
def Stab (lt : α → α → Bool) (d d' : Array α) : Prop := ∀ p, Cls lt p → d'.toList.filter p = d.toList.filter p
omit [Inhabited α] in
theorem Stab.refl (d : Array α) : Stab lt d d := fun _ _ => rfl
omit [Inhabited α] in
theorem Stab.trans {d d1 d2 : Array α} (h : Stab lt d d1) (h' : Stab lt d1 d2) : Stab lt d d2 := fun p hp => (h' p hp).trans (h p hp)
omit [Inhabited α] in
theorem filter_none {p : α → Bool} {l : List α} (h : ∀ x ∈ l, p x = false) : l.filter p = [] := List.filter_eq_nil_iff.2 fun x hx => by rw [h x hx]; simp
theorem Rot.stab {a m b : Nat} {d d' : Array α} (h : Rot a m b d d') (ham : a ≤ m) (hmb : m ≤ b) (hb : b ≤ d.size)
 (hl : ∀ i j, a ≤ i → i < m → m ≤ j → j < b → lt d[j]! d[i]! = true) : Stab lt d d' := by
 intro p hp
 have e1 : d.toList = seg d 0 a ++ (seg d a m ++ seg d m b) ++ seg d b d.size := by
  rw [← seg_cut d ham hmb, ← seg_cut d (Nat.zero_le a) (by omega), ← seg_cut d (Nat.zero_le b) hb]; exact toList_map d
 have e2 : d'.toList = seg d 0 a ++ (seg d m b ++ seg d a m) ++ seg d b d.size := by
  rw [← h.segs ham hmb, ← seg_same (d := d) (d' := d') (a := 0) (b := a) (fun i _ h2 => by rw [h.2, if_pos h2]), ← seg_same (d := d) (d' := d') (a := b) (b := d.size) (fun i h1 _ => by rw [h.2, if_neg (by omega), if_neg (by omega), if_neg (by omega)]),
   ← seg_cut d' (Nat.zero_le a) (by omega), ← seg_cut d' (Nat.zero_le b) hb, ← h.1]
  exact toList_map d'
 rw [e1, e2]
 simp only [List.filter_append]
 congr 2
 by_cases hu : ∃ x ∈ seg d a m, p x = true
 · obtain ⟨x, hx, px⟩ := hu
   obtain ⟨i, i1, i2, rfl⟩ := mem_seg hx
   rw [filter_none (l := seg d m b) fun y hy => by
    obtain ⟨j, j1, j2, rfl⟩ := mem_seg hy
    cases py : p d[j]! with
    | false => rfl
    | true => have := hp _ _ py px; rw [hl i j i1 i2 j1 j2] at this; cases this]
   simp
 · rw [filter_none (l := seg d a m) fun y hy => by
    cases py : p y with
    | false => rfl
    | true => exact absurd ⟨y, hy, py⟩ hu]
   simp
theorem stab_swp {d : Array α} {j : Nat} (hj : j + 1 < d.size) (hl : lt d[j + 1]! d[j]! = true) : Stab lt d (swp d (j + 1) j) := by
 have h := (Rot.nil1 (j + 1) (j + 1 + 1) d).left (k := j) (by omega) hj
 exact h.stab (by omega) (by omega) (by omega) fun i k h1 h2 h3 h4 => by
  obtain rfl : i = j := by omega
  obtain rfl : k = i + 1 := by omega
  exact hl
theorem insInner_stab (a : Nat) : ∀ (j : Nat) (d : Array α), j < d.size → Stab lt d (insInner lt a j d)
 | 0, d, _ => by unfold insInner; exact Stab.refl d
 | j + 1, d, hj => by
   unfold insInner
   split
   · rename_i hc
     simp only [Bool.and_eq_true, decide_eq_true_eq] at hc
     exact (stab_swp hj hc.2).trans (insInner_stab a j _ (by rw [size_swp]; omega))
   · exact Stab.refl d
theorem insInner_size (a : Nat) : ∀ (j : Nat) (d : Array α), (insInner lt a j d).size = d.size
 | 0, d => by unfold insInner; rfl
 | j + 1, d => by
   unfold insInner
   split
   · rw [insInner_size a j, size_swp]
   · rfl
theorem insOuter_stab (a b : Nat) : ∀ (n i : Nat) (d : Array α), b - i = n → b ≤ d.size → Stab lt d (insOuter lt a b i d)
 | 0, i, d, hn, _ => by rw [insOuter, if_neg (by omega)]; exact Stab.refl d
 | n + 1, i, d, hn, hb => by
   rw [insOuter, if_pos (by omega)]
   exact (insInner_stab a i d (by omega)).trans (insOuter_stab a b n (i + 1) _ (by omega) (by rw [insInner_size]; exact hb))
structure Srt (lt : α → α → Bool) (a b : Nat) (d d' : Array α) : Prop where
 perm : PermIn a b d d'
 stab : Stab lt d d'
 ord : SortedIn lt a b d'
theorem srt_ins (hS : SWO lt) (d : Array α) (a b : Nat) (hab : a ≤ b) (hb : b ≤ d.size) : Srt lt a b d (insertionSort lt d a b) :=
 have h := insertionSort_holds (lt := lt) hS d a b hab hb
 ⟨h.1, insOuter_stab a b _ _ d rfl hb, h.2⟩
theorem si_part {a b a' b' : Nat} {d : Array α} (h : SortedIn lt a b d) (ha : a ≤ a') (hb : b' ≤ b) : SortedIn lt a' b' d := fun i j h1 h2 h3 => h i j (by omega) h2 (by omega)
theorem si_same {a b : Nat} {d d' : Array α} (h : SortedIn lt a b d) (he : ∀ i, a ≤ i → i < b → d'[i]! = d[i]!) : SortedIn lt a b d' := fun i j h1 h2 h3 => by
 rw [he i h1 (by omega), he j (by omega) h3]; exact h i j h1 h2 h3
theorem si_le {a b : Nat} {d : Array α} (h : SortedIn lt a b d) (hS : SWO lt) {i j : Nat} (h1 : a ≤ i) (h2 : i ≤ j) (h3 : j < b) : lt d[j]! d[i]! = false := by
 by_cases e : i = j
 · subst e; exact hS.irrefl _
 · exact h i j h1 (by omega) h3
theorem Srt.self {a b : Nat} {d : Array α} (h : SortedIn lt a b d) : Srt lt a b d d := ⟨permIn_refl d a b, Stab.refl d, h⟩
theorem rot_parts {a m b start e mid : Nat} {d d1 : Array α} (h1 : a ≤ start) (h2 : start ≤ m) (h3 : m ≤ e) (h4 : e ≤ b) (hmid : mid + m = start + e)
 (hA : SortedIn lt a m d) (hB : SortedIn lt m b d) (hR : Rot start m e d d1) : SortedIn lt a start d1 ∧ SortedIn lt start mid d1 ∧ SortedIn lt mid e d1 ∧ SortedIn lt e b d1 := by
 have g1 : ∀ i, i < start → d1[i]! = d[i]! := fun i hi => by rw [hR.2, if_pos hi]
 have g2 : ∀ i, start ≤ i → i < mid → d1[i]! = d[i + (m - start)]! := fun i i1 i2 => by rw [hR.2, if_neg (by omega), if_pos (by omega)]
 have g3 : ∀ i, mid ≤ i → i < e → d1[i]! = d[i - (e - m)]! := fun i i1 i2 => by rw [hR.2, if_neg (by omega), if_neg (by omega), if_pos i2]
 have g4 : ∀ i, e ≤ i → d1[i]! = d[i]! := fun i i1 => by rw [hR.2, if_neg (by omega), if_neg (by omega), if_neg (by omega)]
 exact ⟨si_same (si_part hA (Nat.le_refl a) h2) fun i _ i2 => g1 i i2,
  fun i j i1 i2 i3 => by rw [g2 i i1 (by omega), g2 j (by omega) i3]; exact hB _ _ (by omega) (by omega) (by omega),
  fun i j i1 i2 i3 => by rw [g3 i i1 (by omega), g3 j (by omega) i3]; exact hA _ _ (by omega) (by omega) (by omega),
  si_same (si_part hB h3 (Nat.le_refl b)) fun i i1 _ => g4 i i1⟩
theorem srt_merge (hS : SWO lt) {a m b start e mid : Nat} {d d1 d2 d3 : Array α} (h1 : a ≤ start) (h2 : start ≤ m) (h3 : m ≤ e) (h4 : e ≤ b) (hb : b ≤ d.size) (hmid : mid + m = start + e)
 (hA : SortedIn lt a m d) (hB : SortedIn lt m b d) (hlo : a < start → e < b → lt d[e]! d[start - 1]! = false) (hhi : start < m → m < e → lt d[e - 1]! d[start]! = true)
 (hR : Rot start m e d d1) (L : Srt lt a mid d1 d2) (M : Srt lt mid b d2 d3) : Srt lt a b d d3 := by
 have hu : ∀ i j, start ≤ i → i < m → m ≤ j → j < e → lt d[j]! d[i]! = true := fun i j i1 i2 j1 j2 => by
  cases hc : lt d[j]! d[i]! with
  | true => rfl
  | false =>
    have x1 := si_le hB hS j1 (show j ≤ e - 1 by omega) (by omega)
    have x2 := si_le hA hS h1 i1 (by omega)
    have := hS.ntrans _ _ _ (hS.ntrans _ _ _ x1 hc) x2
    rw [hhi (by omega) (by omega)] at this; cases this
 have g1 : ∀ i, i < start → d1[i]! = d[i]! := fun i hi => by rw [hR.2, if_pos hi]
 have g2 : ∀ i, start ≤ i → i < mid → d1[i]! = d[i + (m - start)]! := fun i i1 i2 => by rw [hR.2, if_neg (by omega), if_pos (by omega)]
 have g3 : ∀ i, mid ≤ i → i < e → d1[i]! = d[i - (e - m)]! := fun i i1 i2 => by rw [hR.2, if_neg (by omega), if_neg (by omega), if_pos i2]
 have g4 : ∀ i, e ≤ i → d1[i]! = d[i]! := fun i i1 => by rw [hR.2, if_neg (by omega), if_neg (by omega), if_neg (by omega)]
 have f1 : ∀ i, mid ≤ i → d2[i]! = d1[i]! := fun i hi => L.perm.2.1 i (Or.inr hi)
 have z1 : d1.size = d.size := hR.1
 have z2 : d2.size = d.size := L.perm.1.trans z1
 -- across mid, in d1
 have X1 : ∀ i, a ≤ i → i < mid → ∀ j, mid ≤ j → j < b → lt d1[j]! d1[i]! = false := fun i i1 i2 j j1 j2 => by
  by_cases hi : i < start
  · rw [g1 i hi]
    by_cases hj : j < e
    · rw [g3 j j1 hj]; exact si_le hA hS i1 (by omega) (by omega)
    · rw [g4 j (by omega)]
      exact hS.ntrans _ _ _ (hS.ntrans _ _ _ (si_le hB hS h3 (show e ≤ j by omega) j2) (hlo (by omega) (by omega))) (si_le hA hS i1 (show i ≤ start - 1 by omega) (by omega))
  · rw [g2 i (by omega) i2]
    by_cases hj : j < e
    · rw [g3 j j1 hj]; exact hS.asymmA (hu _ _ (by omega) (by omega) (by omega) (by omega))
    · rw [g4 j (by omega)]; exact si_le hB hS (by omega) (by omega) j2
 have X2 : ∀ i, a ≤ i → i < mid → ∀ j, mid ≤ j → j < b → lt d2[j]! d2[i]! = false := by
  refine permIn_all d1 d2 a mid (fun x => ∀ j, mid ≤ j → j < b → lt d2[j]! x = false) (by omega) L.perm fun i i1 i2 j j1 j2 => ?_
  rw [f1 j j1]; exact X1 i i1 i2 j j1 j2
 have X3 : ∀ j, mid ≤ j → j < b → ∀ i, a ≤ i → i < mid → lt d3[j]! d2[i]! = false :=
  permIn_all d2 d3 mid b (fun x => ∀ i, a ≤ i → i < mid → lt x d2[i]! = false) (by omega) M.perm fun j j1 j2 i i1 i2 => X2 i i1 i2 j j1 j2
 have f2 : ∀ i, i < mid → d3[i]! = d2[i]! := fun i hi => M.perm.2.1 i (Or.inl hi)
 refine ⟨permIn_trans _ _ _ _ _ (permIn_mono _ _ _ _ a b h1 h4 hb (hR.perm h2 h3 (by omega))) (permIn_trans _ _ _ _ _ (permIn_mono _ _ _ _ a b (Nat.le_refl a) (by omega) (by omega) L.perm) (permIn_mono _ _ _ _ a b (by omega) (Nat.le_refl b) (by omega) M.perm)),
  ((hR.stab h2 h3 (by omega) hu).trans L.stab).trans M.stab, fun i j i1 i2 i3 => ?_⟩
 by_cases hj : j < mid
 · rw [f2 i (by omega), f2 j hj]; exact L.ord i j i1 i2 hj
 · by_cases hi : i < mid
   · rw [f2 i hi]; exact X3 j (by omega) i3 i i1 hi
   · exact M.ord i j (by omega) i2 i3
theorem srt_first (hS : SWO lt) {a i b : Nat} {d d' : Array α} (hai : a < i) (hib : i ≤ b) (hb : b ≤ d.size) (hB : SortedIn lt (a + 1) b d)
 (hlo : ∀ x, a + 1 ≤ x → x < i → lt d[x]! d[a]! = true) (hhi : ∀ x, i ≤ x → x < b → lt d[x]! d[a]! = false) (hR : Rot a (a + 1) i d d') : Srt lt a b d d' := by
 refine ⟨permIn_mono _ _ _ _ a b (Nat.le_refl a) hib hb (hR.perm (by omega) (by omega) (by omega)), hR.stab (by omega) (by omega) (by omega) fun x y x1 x2 y1 y2 => ?_, fun x y x1 x2 x3 => ?_⟩
 · obtain rfl : x = a := by omega
   exact hlo y y1 y2
 · rw [hR.2 x, hR.2 y]
   repeat' split
   all_goals first
    | omega
    | exact hB _ _ (by omega) (by omega) (by omega)
    | (rw [show x - (i - (a + 1)) = a by omega]; exact hhi _ (by omega) (by omega))
    | (rw [show y - (i - (a + 1)) = a by omega]; exact hS.asymmA (hlo _ (by omega) (by omega)))
theorem srt_last (hS : SWO lt) {a i m : Nat} {d d' : Array α} (hai : a ≤ i) (him : i ≤ m) (hb : m < d.size) (hA : SortedIn lt a m d)
 (hlo : ∀ x, a ≤ x → x < i → lt d[m]! d[x]! = false) (hhi : ∀ x, i ≤ x → x < m → lt d[m]! d[x]! = true) (hR : Rot i m (m + 1) d d') : Srt lt a (m + 1) d d' := by
 refine ⟨permIn_mono _ _ _ _ a (m + 1) hai (Nat.le_refl _) (by omega) (hR.perm him (by omega) (by omega)), hR.stab him (by omega) (by omega) fun x y x1 x2 y1 y2 => ?_, fun x y x1 x2 x3 => ?_⟩
 · obtain rfl : y = m := by omega
   exact hhi x x1 x2
 · rw [hR.2 x, hR.2 y]
   repeat' split
   all_goals first
    | omega
    | exact hA _ _ (by omega) (by omega) (by omega)
    | (rw [show y + (m - i) = m by omega]; exact hlo _ (by omega) (by omega))
    | (rw [show x + (m - i) = m by omega]; exact hS.asymmA (hhi _ (by omega) (by omega)))
theorem Srt.keep {a b x y : Nat} {d d' : Array α} (h : Srt lt a b d d') (ho : SortedIn lt x y d) (hx : b ≤ x ∨ y ≤ a) : SortedIn lt x y d' :=
 si_same ho fun i i1 i2 => h.perm.2.1 i (by omega)
theorem Srt.size {a b : Nat} {d d' : Array α} (h : Srt lt a b d d') : d'.size = d.size := h.perm.1
theorem Srt.out {a b : Nat} {d d' : Array α} (h : Srt lt a b d d') {i : Nat} (hi : i < a ∨ b ≤ i) : d'[i]! = d[i]! := h.perm.2.1 i hi
end
end Go.Proofs.Ytamhfjlffacakaa.St

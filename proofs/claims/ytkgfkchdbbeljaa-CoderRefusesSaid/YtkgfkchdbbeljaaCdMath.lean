/-
  Codes over the field of 256 elements, in plain functions: a text as a row of bytes, the rows of a code, what is read of any k pieces.
-/
import Derived.Test.YtkgfkchdbbeljaaMxPowers
namespace Go.Proofs.Ytkgfkchdbbeljaa.Cd
open Go.Proofs.Ytkgfkchdbbeljaa.Gf Go.Proofs.Ytkgfkchdbbeljaa.Mx

/-- The byte of a text at a place. -/
def kt (t : ByteArray) (p : Nat) : K := ⟨((t.data[p]?).getD 0).toNat, UInt8.toNat_lt _⟩
/-- The text of bytes. -/
def bs (m : Nat) (f : Nat → K) : ByteArray := ⟨((List.range m).map fun i => UInt8.ofNat (f i).n).toArray⟩
theorem bs_size (m : Nat) (f : Nat → K) : (bs m f).size = m := by simp [bs, ByteArray.size]
theorem bs_get (m : Nat) (f : Nat → K) (p : Nat) (hp : p < m) : (bs m f).data[p]? = some (UInt8.ofNat (f p).n) := by
  simp [bs, hp]
theorem kt_bs {m : Nat} {f : Nat → K} {p : Nat} (hp : p < m) : kt (bs m f) p = f p := by
  apply K.eq
  show (((bs m f).data[p]?).getD 0).toNat = _
  rw [bs_get m f p hp]
  show (UInt8.ofNat (f p).n).toNat = _
  rw [UInt8.toNat_ofNat']
  exact Nat.mod_eq_of_lt (f p).h
theorem kt_at {t : ByteArray} {p : Nat} (hp : p < t.size) : (kt t p).n = t[p].toNat := by
  show ((t.data[p]?).getD 0).toNat = _
  have : t.data[p]? = some t[p] := Array.getElem?_eq_getElem hp
  rw [this]; rfl
theorem text_ext {s t : ByteArray} (h : s.size = t.size) (e : ∀ p, p < s.size → kt s p = kt t p) : s = t := by
  apply ByteArray.ext
  apply Array.ext h
  intro p h1 h2
  have := congrArg K.n (e p h1)
  rw [kt_at (show p < s.size from h1), kt_at (show p < t.size from h2)] at this
  exact UInt8.toNat_inj.1 this
theorem bs_kt {m : Nat} {t : ByteArray} (h : t.size = m) : bs m (kt t) = t :=
  text_ext (by rw [bs_size, h]) fun p hp => kt_bs (by rwa [bs_size] at hp)
theorem bs_congr {m : Nat} {f g : Nat → K} (h : ∀ p, p < m → f p = g p) : bs m f = bs m g :=
  text_ext (by rw [bs_size, bs_size]) fun p hp => by
    rw [bs_size] at hp
    rw [kt_bs hp, kt_bs hp, h p hp]
theorem bs_text {m : Nat} {f : Nat → K} {t : ByteArray} (h : t.size = m) (e : ∀ p, p < m → f p = kt t p) : bs m f = t := by
  rw [bs_congr e, bs_kt h]

/-- Rows of powers. -/
def pows (i j : Nat) : K := kp (kb i) j
/-- Rows of a code of k of n. -/
def Cod (k n : Nat) (x : Nat → Nat → K) : Prop := ∃ y, Inv k pows y ∧ ∀ i, i < n → ∀ j, j < k → x i j = mm k pows y i j
theorem Cod.one {k n : Nat} {x : Nat → Nat → K} (h : Cod k n x) (hk : k ≤ n) {i j : Nat} (hi : i < k) (hj : j < k) : x i j = one i j := by
  obtain ⟨y, hy, hx⟩ := h
  rw [hx i (by omega) j hj, (hy i hi j hj).1]
theorem Cod.not_sing {k n : Nat} {x : Nat → Nat → K} (h : Cod k n x) (hn : n ≤ 256) {z : Nat → Nat} (hz : ∀ i, i < k → z i < n) (hi : ∀ i, i < k → ∀ j, j < k → z i = z j → i = j) : ¬ Sing k (fun i j => x (z i) j) := by
  obtain ⟨y, hy, hx⟩ := h
  rintro ⟨v, ⟨c, hc, hv⟩, hk⟩
  have e : ∀ i, i < k → S k (fun t => pows (z i) t * mm k y (fun a _ => v a) t 0) = 0 := fun i hik => by
    have e1 := mm_assoc k k (fun a b => pows (z a) b) y (fun a _ => v a) i 0
    have e2 : mm k (mm k (fun a b => pows (z a) b) y) (fun a _ => v a) i 0 = 0 := by
      rw [← hk i hik]
      exact S_congr fun j hj => by show _ = x (z i) j * v j; rw [hx (z i) (hz i hik) j hj]; rfl
    rw [e2] at e1
    exact e1.symm
  have hu : ∀ t, t < k → mm k y (fun a _ => v a) t 0 = 0 := fun t ht => by
    by_cases h0 : mm k y (fun a _ => v a) t 0 = 0
    · exact h0
    · refine absurd ⟨fun t => mm k y (fun a _ => v a) t 0, ⟨t, ht, h0⟩, e⟩ (powers_not_sing k (fun i => kb (z i)) fun a ha b hb q => hi a ha b hb ?_)
      have q1 : (z a) % 256 = (z b) % 256 := congrArg K.n q
      have := hz a ha
      have := hz b hb
      omega
  refine hv ?_
  have e1 := mm_assoc k k pows y (fun a _ => v a) c 0
  have e2 : mm k (mm k pows y) (fun a _ => v a) c 0 = v c := by
    rw [mm_congr (a' := Mx.one) (b' := fun a _ => v a) (fun t ht => (hy c hc t ht).1) (fun _ _ => rfl)]
    exact one_mm k (fun a _ => v a) c 0 hc
  rw [← e2, e1]
  show S k (fun t => pows c t * mm k y (fun a _ => v a) t 0) = 0
  rw [S_congr (g := fun _ => 0) (fun t ht => by rw [hu t ht, mul0]), S_zero]
/-- The texts' bytes. -/
def U (t : Nat → ByteArray) (i p : Nat) : K := kt (t i) p
/-- The i-th text that rows make of texts. -/
def pc (k m : Nat) (x : Nat → Nat → K) (t : Nat → ByteArray) (i : Nat) : ByteArray := bs m (mm k x (U t) i)
theorem pc_size (k m : Nat) (x : Nat → Nat → K) (t : Nat → ByteArray) (i : Nat) : (pc k m x t i).size = m := bs_size _ _
theorem pc_congr {k m : Nat} {x x' : Nat → Nat → K} {t t' : Nat → ByteArray} {i i' : Nat} (hx : ∀ j, j < k → x i j = x' i' j) (ht : ∀ j, j < k → t j = t' j) : pc k m x t i = pc k m x' t' i' :=
  bs_congr fun p _ => S_congr fun j hj => by rw [hx j hj]; show _ * kt (t j) p = _ * kt (t' j) p; rw [ht j hj]
theorem kt_pc {k m : Nat} {x : Nat → Nat → K} {t : Nat → ByteArray} {i p : Nat} (hp : p < m) : kt (pc k m x t i) p = mm k x (U t) i p := kt_bs hp
/-- The first k pieces are the texts. -/
theorem Cod.first {k n m : Nat} {x : Nat → Nat → K} (h : Cod k n x) (hk : k ≤ n) {t : Nat → ByteArray} {i : Nat} (hi : i < k) (hs : (t i).size = m) : pc k m x t i = t i :=
  bs_text hs fun p _ => by
    rw [mm_congr (a' := Mx.one) (b' := U t) (fun j hj => h.one hk hi hj) (fun _ _ => rfl)]
    exact one_mm k (U t) i p hi
/-- Rows, one behind the other. -/
theorem pc_pc {k m : Nat} {x y : Nat → Nat → K} {t : Nat → ByteArray} (i : Nat) : pc k m x (pc k m y t) i = pc k m (mm k x y) t i :=
  bs_congr fun p hp => by
    rw [mm_assoc]
    exact S_congr fun j _ => by show _ * kt (pc k m y t j) p = _; rw [kt_pc hp]
theorem pc_one {k m : Nat} {x : Nat → Nat → K} {t : Nat → ByteArray} {i : Nat} (hi : i < k) (hs : (t i).size = m) (hx : ∀ j, j < k → x i j = Mx.one i j) : pc k m x t i = t i :=
  bs_text hs fun p _ => by
    rw [mm_congr (a' := Mx.one) (b' := U t) hx (fun _ _ => rfl)]
    exact one_mm k (U t) i p hi
/-- What undoes rows, of what the rows make: the texts. -/
theorem pc_undo {k m : Nat} {a y : Nat → Nat → K} (h : Inv k a y) {t : Nat → ByteArray} {i : Nat} (hi : i < k) (hs : (t i).size = m) : pc k m y (pc k m a t) i = t i := by
  rw [pc_pc]; exact pc_one hi hs fun j hj => (h i hi j hj).2
theorem pc_redo {k m : Nat} {a y : Nat → Nat → K} (h : Inv k a y) {t : Nat → ByteArray} {i : Nat} (hi : i < k) (hs : (t i).size = m) : pc k m a (pc k m y t) i = t i := by
  rw [pc_pc]; exact pc_one hi hs fun j hj => (h i hi j hj).1
/-- A code of 1: each piece is the text. -/
theorem Cod.of_one {n : Nat} {x : Nat → Nat → K} (h : Cod 1 n x) {i : Nat} (hi : i < n) : x i 0 = 1 := by
  obtain ⟨y, hy, hx⟩ := h
  have h0 := (hy 0 (by omega) 0 (by omega)).1
  rw [hx i hi 0 (by omega)]
  rw [show mm 1 pows y i 0 = mm 1 pows y 0 0 from rfl, h0]; rfl
/-- Sums of texts. -/
def sm (s t : ByteArray) : ByteArray := bs s.size (fun p => kt s p + kt t p)
theorem pc_sum {k m : Nat} {x : Nat → Nat → K} {s t u : Nat → ByteArray} (hu : ∀ j, j < k → ∀ p, p < m → kt (u j) p = kt (s j) p + kt (t j) p) (i : Nat) : pc k m x u i = sm (pc k m x s i) (pc k m x t i) := by
  unfold sm
  rw [pc_size]
  refine bs_congr fun p hp => ?_
  rw [kt_pc hp, kt_pc hp]
  unfold mm
  rw [← S_add]
  exact S_congr fun j hj => by show _ * kt (u j) p = _; rw [hu j hj p hp, muld]; rfl
end Go.Proofs.Ytkgfkchdbbeljaa.Cd

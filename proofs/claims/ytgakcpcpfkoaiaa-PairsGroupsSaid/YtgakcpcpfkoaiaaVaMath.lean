/-
  Values, in plain mathematics: right ones, their order, their bytes, how they are written.
-/
import Derived.Test.YtgakcpcpfkoaiaaTpMath
import Derived.Test.YtgakcpcpfkoaiaaGaMath
import Derived.Lib.ItoaNum
import Derived.Lib.ItoaLen
namespace Go.Proofs.Ytgakcpcpfkoaiaa.Va
open Go.Proofs.Ytgakcpcpfkoaiaa.Tp Go.Proofs.Ytgakcpcpfkoaiaa.Ga

/-- A value: its kind, its number, its text, its point. -/
structure Va where
  k : Int
  n : Int
  s : List UInt8
  x : Int
  y : Int
  deriving DecidableEq
/-- Is it right? -/
def rt (v : Va) : Bool := decide ((v.k = 0 ∧ -9007199254740992 ≤ v.n ∧ v.n ≤ 9007199254740992 ∧ v.s = [] ∧ v.x = 0 ∧ v.y = 0) ∨ (v.k = 1 ∧ v.n = 0 ∧ v.s.length ≤ 4096 ∧ v.x = 0 ∧ v.y = 0) ∨
  (v.k = 2 ∧ v.n = 0 ∧ v.s = [] ∧ rb ⟨v.x, v.y⟩ = true))
theorem rt_yes {v : Va} (h : rt v = true) : (v.k = 0 ∧ -9007199254740992 ≤ v.n ∧ v.n ≤ 9007199254740992 ∧ v.s = [] ∧ v.x = 0 ∧ v.y = 0) ∨ (v.k = 1 ∧ v.n = 0 ∧ v.s.length ≤ 4096 ∧ v.x = 0 ∧ v.y = 0) ∨
  (v.k = 2 ∧ v.n = 0 ∧ v.s = [] ∧ rb ⟨v.x, v.y⟩ = true) := of_decide_eq_true h
/-! ### The order -/
def cI (a b : Int) : Int := if a < b then -1 else if b < a then 1 else 0
def cS (a b : List UInt8) : Int := if Op.bytesLess a b = true then -1 else if Op.bytesLess b a = true then 1 else 0
def cP (x y u v : Int) : Int := if x < u ∨ x = u ∧ y < v then -1 else if u < x ∨ u = x ∧ v < y then 1 else 0
def or4 (a b c d : Int) : Int := if a ≠ 0 then a else if b ≠ 0 then b else if c ≠ 0 then c else d
def ord (a b : Va) : Int := or4 (cI a.k b.k) (cI a.n b.n) (cS a.s b.s) (cP a.x a.y b.x b.y)
theorem less_nil (a : List UInt8) : Op.bytesLess a [] = false := by cases a <;> rfl
theorem less_cons (a b : UInt8) (x y : List UInt8) : Op.bytesLess (a :: x) (b :: y) = (a < b || (a == b && Op.bytesLess x y)) := rfl
theorem less_cons_iff (a b : UInt8) (x y : List UInt8) : Op.bytesLess (a :: x) (b :: y) = true ↔ (a.toNat < b.toNat ∨ a = b ∧ Op.bytesLess x y = true) := by
  rw [less_cons]; simp [UInt8.lt_iff_toNat_lt]
theorem less_irrefl (a : List UInt8) : Op.bytesLess a a = false := by
  induction a with
  | nil => rfl
  | cons c t ih =>
    rw [Bool.eq_false_iff]
    intro h
    rcases (less_cons_iff c c t t).1 h with h | ⟨_, h⟩
    · omega
    · rw [ih] at h; cases h
theorem less_total (a b : List UInt8) : Op.bytesLess a b = true ∨ Op.bytesLess b a = true ∨ a = b := by
  induction a generalizing b with
  | nil => cases b with
    | nil => exact .inr (.inr rfl)
    | cons d u => exact .inl rfl
  | cons c t ih => cases b with
    | nil => exact .inr (.inl rfl)
    | cons d u =>
      rw [less_cons_iff, less_cons_iff]
      rcases Nat.lt_trichotomy c.toNat d.toNat with h | h | h
      · exact .inl (.inl h)
      · have e : c = d := UInt8.toNat_inj.1 h
        subst e
        rcases ih u with h | h | h
        · exact .inl (.inr ⟨rfl, h⟩)
        · exact .inr (.inl (.inr ⟨rfl, h⟩))
        · exact .inr (.inr (by rw [h]))
      · exact .inr (.inl (.inl h))
theorem less_trans {a b c : List UInt8} (h1 : Op.bytesLess a b = true) (h2 : Op.bytesLess b c = true) : Op.bytesLess a c = true := by
  induction a generalizing b c with
  | nil => cases c with
    | nil => rw [less_nil] at h2; cases h2
    | cons d u => rfl
  | cons x t ih => cases b with
    | nil => rw [less_nil] at h1; cases h1
    | cons y u => cases c with
      | nil => rw [less_nil] at h2; cases h2
      | cons z v =>
        rw [less_cons_iff] at h1 h2 ⊢
        rcases h1 with h1 | ⟨e1, h1⟩
        · rcases h2 with h2 | ⟨e2, h2⟩
          · exact .inl (by omega)
          · subst e2; exact .inl h1
        · subst e1
          rcases h2 with h2 | ⟨e2, h2⟩
          · exact .inl h2
          · subst e2; exact .inr ⟨rfl, ih h1 h2⟩
theorem less_asymm {a b : List UInt8} (h : Op.bytesLess a b = true) : Op.bytesLess b a = false := by
  rw [Bool.eq_false_iff]; intro h2
  have := less_trans h h2
  rw [less_irrefl] at this; cases this
/-- A comparison that is one: as -1, 0, 1. -/
structure Cmp {α : Type} (f : α → α → Int) : Prop where
  rng : ∀ a b, f a b = -1 ∨ f a b = 0 ∨ f a b = 1
  neg : ∀ a b, f b a = -f a b
  zero : ∀ a b, f a b = 0 ↔ a = b
  trans : ∀ a b c, f a b ≤ 0 → f b c ≤ 0 → f a c ≤ 0
theorem cI_cmp : Cmp cI := ⟨fun a b => by unfold cI; split <;> (try split) <;> omega, fun a b => by unfold cI; split <;> (try split) <;> (try split) <;> omega, fun a b => by unfold cI; split <;> (try split) <;> omega,
  fun a b c h1 h2 => by unfold cI at *; split at h1 <;> split at h2 <;> (try split at h1) <;> (try split at h2) <;> split <;> (try split) <;> omega⟩
theorem cS_lt {a b : List UInt8} (h : Op.bytesLess a b = true) : cS a b = -1 := if_pos h
theorem cS_gt {a b : List UInt8} (h : Op.bytesLess b a = true) : cS a b = 1 := by unfold cS; rw [less_asymm h, if_neg (by decide), if_pos h]
theorem cS_self (a : List UInt8) : cS a a = 0 := by unfold cS; rw [less_irrefl]; rfl
theorem cS_le {a b : List UInt8} : cS a b ≤ 0 ↔ (Op.bytesLess a b = true ∨ a = b) := by
  rcases less_total a b with h | h | h
  · rw [cS_lt h]; simp [h]
  · rw [cS_gt h]
    have h2 := less_asymm h
    constructor
    · intro h; omega
    · rintro (h3 | h3)
      · rw [h2] at h3; cases h3
      · subst h3; rw [less_irrefl] at h; cases h
  · subst h; rw [cS_self]; simp
theorem cS_cmp : Cmp cS := by
  refine ⟨fun a b => ?_, fun a b => ?_, fun a b => ?_, fun a b c h1 h2 => ?_⟩
  · rcases less_total a b with h | h | h
    · exact .inl (cS_lt h)
    · exact .inr (.inr (cS_gt h))
    · subst h; exact .inr (.inl (cS_self a))
  · rcases less_total a b with h | h | h
    · rw [cS_lt h, cS_gt h]; rfl
    · rw [cS_lt h, cS_gt h]
    · subst h; rw [cS_self]; rfl
  · rcases less_total a b with h | h | h
    · rw [cS_lt h]
      exact ⟨fun h => by omega, fun e => by subst e; rw [less_irrefl] at h; cases h⟩
    · rw [cS_gt h]
      exact ⟨fun h => by omega, fun e => by subst e; rw [less_irrefl] at h; cases h⟩
    · subst h; rw [cS_self]; simp
  · rw [cS_le] at *
    rcases h1 with h1 | h1
    · rcases h2 with h2 | h2
      · exact .inl (less_trans h1 h2)
      · subst h2; exact .inl h1
    · subst h1; exact h2
theorem cP_cmp : Cmp (fun (a b : Int × Int) => cP a.1 a.2 b.1 b.2) := by
  refine ⟨fun a b => ?_, fun a b => ?_, fun a b => ?_, fun a b c h1 h2 => ?_⟩
  · obtain ⟨x, y⟩ := a; obtain ⟨u, v⟩ := b
    show cP x y u v = -1 ∨ cP x y u v = 0 ∨ cP x y u v = 1
    unfold cP; split <;> (try split) <;> omega
  · obtain ⟨x, y⟩ := a; obtain ⟨u, v⟩ := b
    show cP u v x y = - cP x y u v
    unfold cP; split <;> (try split) <;> (try split) <;> omega
  · obtain ⟨x, y⟩ := a; obtain ⟨u, v⟩ := b
    show cP x y u v = 0 ↔ _
    rw [Prod.mk.injEq]
    unfold cP; split <;> (try split) <;> omega
  · obtain ⟨x, y⟩ := a; obtain ⟨u, v⟩ := b; obtain ⟨p, q⟩ := c
    change cP x y u v ≤ 0 at h1
    change cP u v p q ≤ 0 at h2
    show cP x y p q ≤ 0
    unfold cP at *; split at h1 <;> split at h2 <;> (try split at h1) <;> (try split at h2) <;> split <;> (try split) <;> omega
theorem or4_zero {a b c d : Int} : or4 a b c d = 0 ↔ a = 0 ∧ b = 0 ∧ c = 0 ∧ d = 0 := by
  unfold or4; split
  · constructor <;> (intro h; omega)
  · split
    · constructor <;> (intro h; omega)
    · split
      · constructor <;> (intro h; omega)
      · constructor
        · intro h; omega
        · intro h; omega
theorem ord_rng (a b : Va) : ord a b = -1 ∨ ord a b = 0 ∨ ord a b = 1 := by
  have h1 := cI_cmp.rng a.k b.k; have h2 := cI_cmp.rng a.n b.n; have h3 := cS_cmp.rng a.s b.s; have h4 := cP_cmp.rng (a.x, a.y) (b.x, b.y)
  unfold ord or4
  split
  · exact h1
  · split
    · exact h2
    · split
      · exact h3
      · exact h4
theorem ord_neg (a b : Va) : ord b a = -ord a b := by
  have h1 := cI_cmp.neg a.k b.k; have h2 := cI_cmp.neg a.n b.n; have h3 := cS_cmp.neg a.s b.s; have h4 := cP_cmp.neg (a.x, a.y) (b.x, b.y)
  change cP b.x b.y a.x a.y = -cP a.x a.y b.x b.y at h4
  unfold ord or4
  rw [h1, h2, h3, h4]
  split <;> split <;> (try omega)
theorem Va.ext' {a b : Va} (h1 : a.k = b.k) (h2 : a.n = b.n) (h3 : a.s = b.s) (h4 : (a.x, a.y) = (b.x, b.y)) : a = b := by
  cases a; cases b; simp_all
theorem ord_zero (a b : Va) : ord a b = 0 ↔ a = b := by
  unfold ord
  rw [or4_zero, cI_cmp.zero, cI_cmp.zero, cS_cmp.zero, cP_cmp.zero (a.x, a.y) (b.x, b.y)]
  exact ⟨fun ⟨h1, h2, h3, h4⟩ => Va.ext' h1 h2 h3 h4, fun h => by subst h; exact ⟨rfl, rfl, rfl, rfl⟩⟩
/-- Two steps of a comparison by parts. -/
theorem or_le {a b c p q r : Int} (h1 : a ≤ 0 → b ≤ 0 → c ≤ 0) (hz : c = 0 → a ≤ 0 → b ≤ 0 → a = 0 ∧ b = 0) (hrest : a = 0 → b = 0 → p ≤ 0 → q ≤ 0 → r ≤ 0)
    (g1 : (if a ≠ 0 then a else p) ≤ 0) (g2 : (if b ≠ 0 then b else q) ≤ 0) : (if c ≠ 0 then c else r) ≤ 0 := by
  have a0 : a ≤ 0 := by split at g1 <;> omega
  have b0 : b ≤ 0 := by split at g2 <;> omega
  have c0 := h1 a0 b0
  split
  · exact c0
  · obtain ⟨ea, eb⟩ := hz (by omega) a0 b0
    rw [if_neg (by omega)] at g1 g2
    exact hrest ea eb g1 g2
theorem Cmp.both {α : Type} {f : α → α → Int} (h : Cmp f) {a b c : α} (hz : f a c = 0) (h1 : f a b ≤ 0) (h2 : f b c ≤ 0) : f a b = 0 ∧ f b c = 0 := by
  obtain rfl := (h.zero a c).1 hz
  have h3 := h.neg a b
  omega
theorem ord_trans (a b c : Va) (h1 : ord a b ≤ 0) (h2 : ord b c ≤ 0) : ord a c ≤ 0 := by
  unfold ord or4 at *
  refine or_le (cI_cmp.trans _ _ _) (fun hz => cI_cmp.both hz) (fun _ _ g1 g2 => ?_) h1 h2
  refine or_le (cI_cmp.trans _ _ _) (fun hz => cI_cmp.both hz) (fun _ _ g1 g2 => ?_) g1 g2
  refine or_le (cS_cmp.trans _ _ _) (fun hz => cS_cmp.both hz) (fun _ _ g1 g2 => ?_) g1 g2
  exact cP_cmp.trans (a.x, a.y) (b.x, b.y) (c.x, c.y) g1 g2
/-! ### Its bytes -/
def vb (v : Va) : List UInt8 :=
  if v.k = 1 then nb 1 ++ (nb v.s.length ++ v.s)
  else if v.k = 2 then (nb 2 ++ nb (wn v.x)) ++ nb (wn v.y)
  else (nb 0 ++ nb (wn (v.n / 134217728))) ++ nb (v.n % 134217728).toNat
theorem vb_text (n x y : Int) (s : List UInt8) : vb ⟨1, n, s, x, y⟩ = nb 1 ++ (nb s.length ++ s) := if_pos rfl
theorem vb_point (n x y : Int) (s : List UInt8) : vb ⟨2, n, s, x, y⟩ = (nb 2 ++ nb (wn x)) ++ nb (wn y) := by
  unfold vb; rw [if_neg (show ¬ (2 : Int) = 1 by decide), if_pos rfl]
theorem vb_int (n x y : Int) (s : List UInt8) : vb ⟨0, n, s, x, y⟩ = (nb 0 ++ nb (wn (n / 134217728))) ++ nb (n % 134217728).toNat := by
  unfold vb; rw [if_neg (show ¬ (0 : Int) = 1 by decide), if_neg (show ¬ (0 : Int) = 2 by decide)]
/-- Of any value. -/
def vbs (v : Va) : List UInt8 := if rt v = true then vb v else []
/-! ### How it is written -/
/-- A byte that stands in quotes as it is. -/
def pl (c : UInt8) : Bool := decide (32 ≤ c.toNat ∧ c.toNat ≤ 126 ∧ c.toNat ≠ 34 ∧ c.toNat ≠ 92)
/-- A digit of sixteen. -/
def hx (n : Nat) : UInt8 := UInt8.ofNat (if n < 10 then 48 + n else 87 + n)
def e1 (c : UInt8) : List UInt8 := if pl c = true then [c] else [92, hx (c.toNat / 16), hx (c.toNat % 16)]
def esc (l : List UInt8) : List UInt8 := l.flatMap e1
def wr (v : Va) : List UInt8 :=
  if v.k = 1 then 34 :: (esc v.s ++ [34])
  else if v.k = 2 then (Lib.itoa v.x ++ [58]) ++ Lib.itoa v.y
  else Lib.itoa v.n
theorem wr_text (n x y : Int) (s : List UInt8) : wr ⟨1, n, s, x, y⟩ = 34 :: (esc s ++ [34]) := if_pos rfl
theorem wr_point (n x y : Int) (s : List UInt8) : wr ⟨2, n, s, x, y⟩ = (Lib.itoa x ++ [58]) ++ Lib.itoa y := by
  unfold wr; rw [if_neg (show ¬ (2 : Int) = 1 by decide), if_pos rfl]
theorem wr_int (n x y : Int) (s : List UInt8) : wr ⟨0, n, s, x, y⟩ = Lib.itoa n := by
  unfold wr; rw [if_neg (show ¬ (0 : Int) = 1 by decide), if_neg (show ¬ (0 : Int) = 2 by decide)]
def wrs (v : Va) : List UInt8 := if rt v = true then wr v else []
theorem esc_nil : esc [] = [] := rfl
theorem esc_cons (c : UInt8) (l : List UInt8) : esc (c :: l) = e1 c ++ esc l := rfl
theorem esc_append (a b : List UInt8) : esc (a ++ b) = esc a ++ esc b := by unfold esc; rw [List.flatMap_append]
theorem e1_le (c : UInt8) : (e1 c).length ≤ 3 := by unfold e1; split <;> simp
theorem esc_le (l : List UInt8) : (esc l).length ≤ 3 * l.length := by
  induction l with
  | nil => simp [esc_nil]
  | cons c t ih => rw [esc_cons, List.length_append, List.length_cons]; have := e1_le c; omega
end Go.Proofs.Ytgakcpcpfkoaiaa.Va

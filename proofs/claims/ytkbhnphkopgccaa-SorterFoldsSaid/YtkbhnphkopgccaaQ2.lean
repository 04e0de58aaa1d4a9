/-
  Small texts of this claim, together: VaMath, JoMath, PrMath, SoMath, SoFoldM, StKit, StSwap, StRuns, VaDig, GaCalls, GaLess, VaSmall, VaNum, VaRd, PrRead, JoSmall, GaSmall, GaAdd, GaMul, GaNear, OvDuo, GaDivide, GaDiv, GaFirst, GaTurn, GaDiv2, GaCommon, VaVal.
-/
import Derived.Test.YtkbhnphkopgccaaQ1
import Derived.Test.YtkbhnphkopgccaaQGaMath
import Derived.Lib.ItoaNum
import Derived.Lib.ItoaLen
import Derived.Test.YtkbhnphkopgccaaQStMath
import Derived.Test.YtkbhnphkopgccaaRows
import Derived.Shelf.SlSortCmp.KitK
import Derived.Sort.WalkB2
import Derived.Sort.WalkB12
import Derived.Deep.LoopGhost
import Derived.Lib.Hide
import Derived.Laws.StructEq
import Derived.Laws.Cover1
import Derived.WalkKit
import Derived.Test.YtkbhnphkopgccaaQOvAlloc
import Derived.ProofKit
import Derived.Lib.SmallJoins
import Derived.OpenShut
import Derived.ShutString
namespace Go.Proofs.Ytkbhnphkopgccaa.Va
open Tp Ga
structure Va where
 k : Int
 n : Int
 s : List UInt8
 x : Int
 y : Int
 deriving DecidableEq
def rt (v : Va) : Bool := decide ((v.k = 0 ∧ -9007199254740992 ≤ v.n ∧ v.n ≤ 9007199254740992 ∧ v.s = [] ∧ v.x = 0 ∧ v.y = 0) ∨ (v.k = 1 ∧ v.n = 0 ∧ v.s.length ≤ 4096 ∧ v.x = 0 ∧ v.y = 0) ∨
 (v.k = 2 ∧ v.n = 0 ∧ v.s = [] ∧ rb ⟨v.x, v.y⟩ = true))
theorem rt_yes {v : Va} (h : rt v = true) : (v.k = 0 ∧ -9007199254740992 ≤ v.n ∧ v.n ≤ 9007199254740992 ∧ v.s = [] ∧ v.x = 0 ∧ v.y = 0) ∨ (v.k = 1 ∧ v.n = 0 ∧ v.s.length ≤ 4096 ∧ v.x = 0 ∧ v.y = 0) ∨
 (v.k = 2 ∧ v.n = 0 ∧ v.s = [] ∧ rb ⟨v.x, v.y⟩ = true) := of_decide_eq_true h
def cI (a b : Int) : Int := if a < b then -1 else if b < a then 1 else 0
def cS (a b : List UInt8) : Int := if Op.bytesLess a b = true then -1 else if Op.bytesLess b a = true then 1 else 0
def cP (x y u v : Int) : Int := if x < u ∨ x = u ∧ y < v then -1 else if u < x ∨ u = x ∧ v < y then 1 else 0
def or4 (a b c d : Int) : Int := if a ≠ 0 then a else if b ≠ 0 then b else if c ≠ 0 then c else d
def ord (a b : Va) : Int := or4 (cI a.k b.k) (cI a.n b.n) (cS a.s b.s) (cP a.x a.y b.x b.y)
theorem less_nil (a : List UInt8) : Op.bytesLess a [] = false := by cases a <;> rfl
theorem less_cons (a b : UInt8) (x y : List UInt8) : Op.bytesLess (a :: x) (b :: y) = (a < b || (a == b && Op.bytesLess x y)) := rfl
theorem less_cons_iff (a b : UInt8) (x y : List UInt8) : Op.bytesLess (a :: x) (b :: y) = true ↔ (a.toNat < b.toNat ∨ a = b ∧ Op.bytesLess x y = true) := by
 rw [less_cons]; simp [UInt8.lt_iff_toNat_lt]
theorem less_irrefl (a : List UInt8) : Op.bytesLess a a = false := by
 induction a with
 | nil => rfl
 | cons c t ih =>
   rw [Bool.eq_false_iff]
   intro h
   rcases (less_cons_iff c c t t).1 h with h | ⟨_, h⟩
   · omega
   · rw [ih] at h; cases h
theorem less_total (a b : List UInt8) : Op.bytesLess a b = true ∨ Op.bytesLess b a = true ∨ a = b := by
 induction a generalizing b with
 | nil => cases b with
   | nil => exact .inr (.inr rfl)
   | cons d u => exact .inl rfl
 | cons c t ih => cases b with
   | nil => exact .inr (.inl rfl)
   | cons d u =>
     rw [less_cons_iff, less_cons_iff]
     rcases Nat.lt_trichotomy c.toNat d.toNat with h | h | h
     · exact .inl (.inl h)
     · have e : c = d := UInt8.toNat_inj.1 h
       subst e
       rcases ih u with h | h | h
       · exact .inl (.inr ⟨rfl, h⟩)
       · exact .inr (.inl (.inr ⟨rfl, h⟩))
       · exact .inr (.inr (by rw [h]))
     · exact .inr (.inl (.inl h))
theorem less_trans {a b c : List UInt8} (h1 : Op.bytesLess a b = true) (h2 : Op.bytesLess b c = true) : Op.bytesLess a c = true := by
 induction a generalizing b c with
 | nil => cases c with
   | nil => rw [less_nil] at h2; cases h2
   | cons d u => rfl
 | cons x t ih => cases b with
   | nil => rw [less_nil] at h1; cases h1
   | cons y u => cases c with
     | nil => rw [less_nil] at h2; cases h2
     | cons z v =>
       rw [less_cons_iff] at h1 h2 ⊢
       rcases h1 with h1 | ⟨e1, h1⟩
       · rcases h2 with h2 | ⟨e2, h2⟩
         · exact .inl (by omega)
         · subst e2; exact .inl h1
       · subst e1
         rcases h2 with h2 | ⟨e2, h2⟩
         · exact .inl h2
         · subst e2; exact .inr ⟨rfl, ih h1 h2⟩
theorem less_asymm {a b : List UInt8} (h : Op.bytesLess a b = true) : Op.bytesLess b a = false := by
 rw [Bool.eq_false_iff]; intro h2
 have := less_trans h h2
 rw [less_irrefl] at this; cases this
structure Cmp {α : Type} (f : α → α → Int) : Prop where
 rng : ∀ a b, f a b = -1 ∨ f a b = 0 ∨ f a b = 1
 neg : ∀ a b, f b a = -f a b
 zero : ∀ a b, f a b = 0 ↔ a = b
 trans : ∀ a b c, f a b ≤ 0 → f b c ≤ 0 → f a c ≤ 0
theorem cI_cmp : Cmp cI := ⟨fun a b => by unfold cI; split <;> (try split) <;> omega, fun a b => by unfold cI; split <;> (try split) <;> (try split) <;> omega, fun a b => by unfold cI; split <;> (try split) <;> omega,
 fun a b c h1 h2 => by unfold cI at *; split at h1 <;> split at h2 <;> (try split at h1) <;> (try split at h2) <;> split <;> (try split) <;> omega⟩
theorem cS_lt {a b : List UInt8} (h : Op.bytesLess a b = true) : cS a b = -1 := if_pos h
theorem cS_gt {a b : List UInt8} (h : Op.bytesLess b a = true) : cS a b = 1 := by unfold cS; rw [less_asymm h, if_neg (by decide), if_pos h]
theorem cS_self (a : List UInt8) : cS a a = 0 := by unfold cS; rw [less_irrefl]; rfl
theorem cS_le {a b : List UInt8} : cS a b ≤ 0 ↔ (Op.bytesLess a b = true ∨ a = b) := by
 rcases less_total a b with h | h | h
 · rw [cS_lt h]; simp [h]
 · rw [cS_gt h]
   have h2 := less_asymm h
   constructor
   · intro h; omega
   · rintro (h3 | h3)
     · rw [h2] at h3; cases h3
     · subst h3; rw [less_irrefl] at h; cases h
 · subst h; rw [cS_self]; simp
theorem cS_cmp : Cmp cS := by
 refine ⟨fun a b => ?_, fun a b => ?_, fun a b => ?_, fun a b c h1 h2 => ?_⟩
 · rcases less_total a b with h | h | h
   · exact .inl (cS_lt h)
   · exact .inr (.inr (cS_gt h))
   · subst h; exact .inr (.inl (cS_self a))
 · rcases less_total a b with h | h | h
   · rw [cS_lt h, cS_gt h]; rfl
   · rw [cS_lt h, cS_gt h]
   · subst h; rw [cS_self]; rfl
 · rcases less_total a b with h | h | h
   · rw [cS_lt h]
     exact ⟨fun h => by omega, fun e => by subst e; rw [less_irrefl] at h; cases h⟩
   · rw [cS_gt h]
     exact ⟨fun h => by omega, fun e => by subst e; rw [less_irrefl] at h; cases h⟩
   · subst h; rw [cS_self]; simp
 · rw [cS_le] at *
   rcases h1 with h1 | h1
   · rcases h2 with h2 | h2
     · exact .inl (less_trans h1 h2)
     · subst h2; exact .inl h1
   · subst h1; exact h2
theorem cP_cmp : Cmp (fun (a b : Int × Int) => cP a.1 a.2 b.1 b.2) := by
 refine ⟨fun a b => ?_, fun a b => ?_, fun a b => ?_, fun a b c h1 h2 => ?_⟩
 · obtain ⟨x, y⟩ := a; obtain ⟨u, v⟩ := b
   show cP x y u v = -1 ∨ cP x y u v = 0 ∨ cP x y u v = 1
   unfold cP; split <;> (try split) <;> omega
 · obtain ⟨x, y⟩ := a; obtain ⟨u, v⟩ := b
   show cP u v x y = - cP x y u v
   unfold cP; split <;> (try split) <;> (try split) <;> omega
 · obtain ⟨x, y⟩ := a; obtain ⟨u, v⟩ := b
   show cP x y u v = 0 ↔ _
   rw [Prod.mk.injEq]
   unfold cP; split <;> (try split) <;> omega
 · obtain ⟨x, y⟩ := a; obtain ⟨u, v⟩ := b; obtain ⟨p, q⟩ := c
   change cP x y u v ≤ 0 at h1
   change cP u v p q ≤ 0 at h2
   show cP x y p q ≤ 0
   unfold cP at *; split at h1 <;> split at h2 <;> (try split at h1) <;> (try split at h2) <;> split <;> (try split) <;> omega
theorem or4_zero {a b c d : Int} : or4 a b c d = 0 ↔ a = 0 ∧ b = 0 ∧ c = 0 ∧ d = 0 := by
 unfold or4; split
 · constructor <;> (intro h; omega)
 · split
   · constructor <;> (intro h; omega)
   · split
     · constructor <;> (intro h; omega)
     · constructor
       · intro h; omega
       · intro h; omega
theorem ord_neg (a b : Va) : ord b a = -ord a b := by
 have h1 := cI_cmp.neg a.k b.k; have h2 := cI_cmp.neg a.n b.n; have h3 := cS_cmp.neg a.s b.s; have h4 := cP_cmp.neg (a.x, a.y) (b.x, b.y)
 change cP b.x b.y a.x a.y = -cP a.x a.y b.x b.y at h4
 unfold ord or4
 rw [h1, h2, h3, h4]
 split <;> split <;> (try omega)
theorem Va.ext' {a b : Va} (h1 : a.k = b.k) (h2 : a.n = b.n) (h3 : a.s = b.s) (h4 : (a.x, a.y) = (b.x, b.y)) : a = b := by
 cases a; cases b; simp_all
theorem ord_zero (a b : Va) : ord a b = 0 ↔ a = b := by
 unfold ord
 rw [or4_zero, cI_cmp.zero, cI_cmp.zero, cS_cmp.zero, cP_cmp.zero (a.x, a.y) (b.x, b.y)]
 exact ⟨fun ⟨h1, h2, h3, h4⟩ => Va.ext' h1 h2 h3 h4, fun h => by subst h; exact ⟨rfl, rfl, rfl, rfl⟩⟩
theorem or_le {a b c p q r : Int} (h1 : a ≤ 0 → b ≤ 0 → c ≤ 0) (hz : c = 0 → a ≤ 0 → b ≤ 0 → a = 0 ∧ b = 0) (hrest : a = 0 → b = 0 → p ≤ 0 → q ≤ 0 → r ≤ 0)
 (g1 : (if a ≠ 0 then a else p) ≤ 0) (g2 : (if b ≠ 0 then b else q) ≤ 0) : (if c ≠ 0 then c else r) ≤ 0 := by
 have a0 : a ≤ 0 := by split at g1 <;> omega
 have b0 : b ≤ 0 := by split at g2 <;> omega
 have c0 := h1 a0 b0
 split
 · exact c0
 · obtain ⟨ea, eb⟩ := hz (by omega) a0 b0
   rw [if_neg (by omega)] at g1 g2
   exact hrest ea eb g1 g2
theorem Cmp.both {α : Type} {f : α → α → Int} (h : Cmp f) {a b c : α} (hz : f a c = 0) (h1 : f a b ≤ 0) (h2 : f b c ≤ 0) : f a b = 0 ∧ f b c = 0 := by
 obtain rfl := (h.zero a c).1 hz
 have h3 := h.neg a b
 omega
theorem ord_trans (a b c : Va) (h1 : ord a b ≤ 0) (h2 : ord b c ≤ 0) : ord a c ≤ 0 := by
 unfold ord or4 at *
 refine or_le (cI_cmp.trans _ _ _) (fun hz => cI_cmp.both hz) (fun _ _ g1 g2 => ?_) h1 h2
 refine or_le (cI_cmp.trans _ _ _) (fun hz => cI_cmp.both hz) (fun _ _ g1 g2 => ?_) g1 g2
 refine or_le (cS_cmp.trans _ _ _) (fun hz => cS_cmp.both hz) (fun _ _ g1 g2 => ?_) g1 g2
 exact cP_cmp.trans (a.x, a.y) (b.x, b.y) (c.x, c.y) g1 g2
def vb (v : Va) : List UInt8 :=
 if v.k = 1 then nb 1 ++ (nb v.s.length ++ v.s)
 else if v.k = 2 then (nb 2 ++ nb (wn v.x)) ++ nb (wn v.y)
 else (nb 0 ++ nb (wn (v.n / 134217728))) ++ nb (v.n % 134217728).toNat
def pl (c : UInt8) : Bool := decide (32 ≤ c.toNat ∧ c.toNat ≤ 126 ∧ c.toNat ≠ 34 ∧ c.toNat ≠ 92)
def hx (n : Nat) : UInt8 := UInt8.ofNat (if n < 10 then 48 + n else 87 + n)
def e1 (c : UInt8) : List UInt8 := if pl c = true then [c] else [92, hx (c.toNat / 16), hx (c.toNat % 16)]
def esc (l : List UInt8) : List UInt8 := l.flatMap e1
def wr (v : Va) : List UInt8 :=
 if v.k = 1 then 34 :: (esc v.s ++ [34])
 else if v.k = 2 then (Lib.itoa v.x ++ [58]) ++ Lib.itoa v.y
 else Lib.itoa v.n
end Go.Proofs.Ytkbhnphkopgccaa.Va
namespace Go.Proofs.Ytkbhnphkopgccaa
open Go
instance : Coe Va.Va (List Value) := ⟨fun v => [.int .i64 v.k, .int .i64 v.n, .string (Ov.tx v.s), .int .i64 v.x, .int .i64 v.y]⟩
instance : Coe Va.Va (Array Value) := ⟨fun v => #[.int .i64 v.k, .int .i64 v.n, .string (Ov.tx v.s), .int .i64 v.x, .int .i64 v.y]⟩
structure Zr where
instance : Coe Zr (List Value) := ⟨fun _ => [.int .i64 0, .int .i64 0, .string ⟨#[]⟩, .int .i64 0, .int .i64 0]⟩
instance : Coe Zr (Array Value) := ⟨fun _ => #[.int .i64 0, .int .i64 0, .string ⟨#[]⟩, .int .i64 0, .int .i64 0]⟩
def zz : Zr := ⟨⟩

end Go.Proofs.Ytkbhnphkopgccaa
namespace Go.Proofs.Ytkbhnphkopgccaa.Jo
open Ov Ga Va
def wSum : List UInt8 := [115, 117, 109]
def wMax : List UInt8 := [109, 97, 120]
def wMin : List UInt8 := [109, 105, 110]
def wGcd : List UInt8 := [103, 99, 100]
def isF (w : List UInt8) : Bool := decide (w = wSum ∨ w = wMax ∨ w = wMin ∨ w = wGcd)
def rg (n b : Int) : Int := (n + b) % (2 * b) - b
def vz0 : Va := ⟨0, 0, [], 0, 0⟩
def pp (v : Va) : Pt := ⟨v.x, v.y⟩
def vp (p : Pt) : Va := ⟨2, 0, [], p.x, p.y⟩
def vn (n : Int) : Va := ⟨0, n, [], 0, 0⟩
def okk (w : List UInt8) (k : Int) : Bool := decide (w = wMax ∨ w = wMin ∨ k = 0 ∨ k = 2)
def opf (w : List UInt8) (a b : Va) : Va :=
 if w = wMax ∨ w = wMin then (if decide (ord a b < 0) = decide (w = wMax) then b else a)
 else if a.k = 0 then vn (if w = wSum then rg (a.n + b.n) 9007199254740992 else (Int.gcd a.n b.n : Int))
 else vp (if w = wSum then ⟨rg (a.x + b.x) 16777216, rg (a.y + b.y) 16777216⟩ else Pt.cg (pp a) (pp b))
def fo (w : List UInt8) (a b : Va) : Va × Int :=
 if isF w = true ∧ rt a = true ∧ rt b = true then
  if a.k = b.k ∧ okk w a.k = true then (opf w a b, 0) else (vz0, 13)
 else (vz0, 1)
theorem cg_first (a b : Pt) : (0 < (Pt.cg a b).x ∧ 0 ≤ (Pt.cg a b).y) ∨ Pt.cg a b = Pt.zero := (Pt.cg_spec _ a b (Nat.lt_succ_self _)).2.2
theorem cg_dv (a b : Pt) : Pt.Dv (Pt.cg a b) a ∧ Pt.Dv (Pt.cg a b) b := (Pt.cg_spec _ a b (Nat.lt_succ_self _)).1
theorem cg_most (a b : Pt) {d : Pt} (h1 : Pt.Dv d a) (h2 : Pt.Dv d b) : Pt.Dv d (Pt.cg a b) := (Pt.cg_spec _ a b (Nat.lt_succ_self _)).2.1 d h1 h2
theorem sq_one {a : Int} (h : a * a = 1) : a = 1 ∨ a = -1 := by
 have h1 := sq_le (a := a) (b := 1) (by decide) (by omega)
 have h2 : a ≠ 0 := fun e => by subst e; simp at h
 omega
theorem one_of_dv {a b : Pt} (ha : (0 < a.x ∧ 0 ≤ a.y) ∨ a = Pt.zero) (hb : (0 < b.x ∧ 0 ≤ b.y) ∨ b = Pt.zero) (h1 : Pt.Dv a b) (h2 : Pt.Dv b a) : a = b := by
 by_cases hz : b = Pt.zero
 · subst hz; exact Pt.Dv.of_zero h2
 have hza : a ≠ Pt.zero := fun h => hz (by subst h; exact Pt.Dv.of_zero h1)
 have ha' := ha.resolve_right hza
 have hb' := hb.resolve_right hz
 obtain ⟨q, hq⟩ := h1
 obtain ⟨r, hr⟩ := h2
 have hn : a.norm = (r.norm * q.norm) * a.norm := by
  have : a = (r.mul q).mul a := by rw [Pt.mul_assoc, ← hq, ← hr]
  rw [← Pt.mul_norm, ← Pt.mul_norm, ← this]
 have hp := Pt.norm_pos hza
 have h1 : r.norm * q.norm = 1 := by
  have h := Int.eq_of_mul_eq_mul_right (by omega : a.norm ≠ 0) (show r.norm * q.norm * a.norm = 1 * a.norm by rw [← hn, Int.one_mul])
  exact h
 have h2 := Pt.norm_nonneg q
 have hq1 : q.norm = 1 := Int.eq_one_of_mul_eq_one_right h2 (by rw [Int.mul_comm]; exact h1)
 have ex : b.x = q.x * a.x - q.y * a.y := congrArg Pt.x hq
 have ey : b.y = q.x * a.y + q.y * a.x := congrArg Pt.y hq
 rcases Pt.unit_cases hq1 with ⟨hx, hy⟩ | ⟨hx, hy⟩
 · have : q.x = 1 ∨ q.x = -1 := sq_one hx
   rcases this with h | h
   · exact Pt.ext (by rw [ex, h, hy]; omega) (by rw [ey, h, hy]; omega)
   · exfalso; rw [h, hy] at ex; omega
 · have : q.y = 1 ∨ q.y = -1 := sq_one hy
   rcases this with h | h
   · exfalso; rw [h, hx] at ex; omega
   · exfalso; rw [h, hx] at ey; omega
theorem cg_assoc (a b c : Pt) : Pt.cg (Pt.cg a b) c = Pt.cg a (Pt.cg b c) :=
 one_of_dv (cg_first _ _) (cg_first _ _)
  (cg_most _ _ ((cg_dv _ c).1.trans (cg_dv a b).1) (cg_most _ _ ((cg_dv _ c).1.trans (cg_dv a b).2) (cg_dv _ c).2))
  (cg_most _ _ (cg_most _ _ (cg_dv a _).1 ((cg_dv a _).2.trans (cg_dv b c).1)) ((cg_dv a _).2.trans (cg_dv b c).2))
theorem rgN (a b c : Int) : rg (rg (a + b) 9007199254740992 + c) 9007199254740992 = rg (a + rg (b + c) 9007199254740992) 9007199254740992 := by unfold rg; omega
theorem rgP (a b c : Int) : rg (rg (a + b) 16777216 + c) 16777216 = rg (a + rg (b + c) 16777216) 16777216 := by unfold rg; omega
theorem rgN_in (n : Int) : -9007199254740992 ≤ rg n 9007199254740992 ∧ rg n 9007199254740992 ≤ 9007199254740991 := by unfold rg; omega
theorem rgP_in (n : Int) : -16777216 ≤ rg n 16777216 ∧ rg n 16777216 ≤ 16777215 := by unfold rg; omega
theorem rt_vn {n : Int} (h : -9007199254740992 ≤ n ∧ n ≤ 9007199254740992) : rt (vn n) = true := decide_eq_true (.inl ⟨rfl, h.1, h.2, rfl, rfl, rfl⟩)
theorem rt_vp {p : Pt} (h : rb p = true) : rt (vp p) = true := decide_eq_true (.inr (.inr ⟨rfl, rfl, rfl, h⟩))
theorem rt_k0 {v : Va} (h : rt v = true) (hk : v.k = 0) : (-9007199254740992 ≤ v.n ∧ v.n ≤ 9007199254740992) ∧ v = vn v.n := by
 obtain ⟨k, n, s, x, y⟩ := v
 rcases rt_yes h with ⟨h0, h1, h2, h3, h4, h5⟩ | ⟨h0, _⟩ | ⟨h0, _⟩
 · simp only at h0 h1 h2 h3 h4 h5 ⊢; subst h0 h3 h4 h5; exact ⟨⟨h1, h2⟩, rfl⟩
 · simp only at h0 hk; omega
 · simp only at h0 hk; omega
theorem rt_k2 {v : Va} (h : rt v = true) (hk : v.k = 2) : rb (pp v) = true ∧ v = vp (pp v) := by
 obtain ⟨k, n, s, x, y⟩ := v
 rcases rt_yes h with ⟨h0, _⟩ | ⟨h0, _⟩ | ⟨h0, h1, h2, h3⟩
 · simp only at h0 hk; omega
 · simp only at h0 hk; omega
 · simp only at h0 h1 h2 h3 ⊢; subst h0 h1 h2; exact ⟨h3, rfl⟩
theorem gcd_in {a b : Int} (ha : -9007199254740992 ≤ a ∧ a ≤ 9007199254740992) (hb : -9007199254740992 ≤ b ∧ b ≤ 9007199254740992) : -9007199254740992 ≤ (Int.gcd a b : Int) ∧ (Int.gcd a b : Int) ≤ 9007199254740992 := by
 by_cases h : a = 0
 · subst h; rw [Int.gcd_zero_left]; omega
 · have := Int.gcd_le_natAbs_left b h; omega
theorem opf_right (w : List UInt8) {a b : Va} (ha : rt a = true) (hb : rt b = true) (hk : a.k = b.k) (ho : okk w a.k = true) : rt (opf w a b) = true ∧ (opf w a b).k = a.k := by
 unfold opf
 by_cases h1 : w = wMax ∨ w = wMin
 · rw [if_pos h1]; split
   · exact ⟨hb, hk.symm⟩
   · exact ⟨ha, rfl⟩
 rw [if_neg h1]
 by_cases h2 : a.k = 0
 · rw [if_pos h2]
   obtain ⟨ga, _⟩ := rt_k0 ha h2
   obtain ⟨gb, _⟩ := rt_k0 hb (by omega)
   refine ⟨rt_vn ?_, h2.symm⟩
   split
   · have := rgN_in (a.n + b.n); omega
   · exact gcd_in ga gb
 · rw [if_neg h2]
   have h3 : a.k = 2 := by
    rcases of_decide_eq_true ho with h | h | h | h
    · exact absurd (.inl h) h1
    · exact absurd (.inr h) h1
    · exact absurd h h2
    · exact h
   obtain ⟨ga, _⟩ := rt_k2 ha h3
   obtain ⟨gb, _⟩ := rt_k2 hb (by omega)
   refine ⟨rt_vp ?_, h3.symm⟩
   split
   · have h4 := rgP_in (a.x + b.x); have h5 := rgP_in (a.y + b.y)
     exact rb_of ⟨⟨h4.1, by show _ ≤ _; simp only; omega⟩, ⟨h5.1, by show _ ≤ _; simp only; omega⟩⟩
   · exact Pt.cg_right _ _ _ (Nat.lt_succ_self _) ga gb
theorem mx_assoc (f : Va → Va → Prop) [∀ a b, Decidable (f a b)] (ht : ∀ a b c, ¬ f a b → ¬ f b c → ¬ f a c) (hs : ∀ a b c, f a b → f b c → f a c) (a b c : Va) :
 (if f (if f a b then b else a) c then c else (if f a b then b else a)) = if f a (if f b c then c else b) then (if f b c then c else b) else a := by
 by_cases h1 : f a b <;> by_cases h2 : f b c
 · simp [h1, h2, hs a b c h1 h2]
 · simp [h1, h2]
 · simp [h1, h2]
 · simp [h1, h2, ht a b c h1 h2]
theorem ord_lt {a b c : Va} (h1 : ord a b < 0) (h2 : ord b c < 0) : ord a c < 0 := by
 have h3 := ord_trans a b c (by omega) (by omega)
 have h4 : ord a c ≠ 0 := fun h => by
  have := (ord_zero a c).1 h; subst this
  have := ord_neg a b; omega
 omega
theorem ord_ge {a b c : Va} (h1 : ¬ ord a b < 0) (h2 : ¬ ord b c < 0) : ¬ ord a c < 0 := by
 have e1 := ord_neg a b; have e2 := ord_neg b c; have e3 := ord_neg a c
 have := ord_trans c b a (by omega) (by omega)
 omega
theorem opf_assoc (w : List UInt8) {a b c : Va} (ha : rt a = true) (hb : rt b = true) (hc : rt c = true) (h1 : a.k = b.k) (h2 : b.k = c.k) (ho : okk w a.k = true) : opf w (opf w a b) c = opf w a (opf w b c) := by
 by_cases h3 : w = wMax ∨ w = wMin
 · have e : ∀ p q, opf w p q = if decide (ord p q < 0) = decide (w = wMax) then q else p := fun p q => if_pos h3
   rw [e a b, e b c, e, e]
   refine mx_assoc (fun p q => decide (ord p q < 0) = decide (w = wMax)) ?_ ?_ a b c
   · intro p q r g1 g2
     by_cases h4 : w = wMax
     · rw [decide_eq_true h4] at *; simp only [decide_eq_true_eq] at *; exact ord_ge g1 g2
     · rw [decide_eq_false h4] at *; simp only [decide_eq_false_iff_not, Decidable.not_not] at *; exact ord_lt g1 g2
   · intro p q r g1 g2
     by_cases h4 : w = wMax
     · rw [decide_eq_true h4] at *; simp only [decide_eq_true_eq] at *; exact ord_lt g1 g2
     · rw [decide_eq_false h4] at *; simp only [decide_eq_false_iff_not] at *; exact ord_ge g1 g2
 · have k1 := (opf_right w ha hb h1 ho).2
   have k2 := (opf_right w hb hc h2 (by rw [← h1]; exact ho)).2
   by_cases h4 : a.k = 0
   · have e : ∀ p q : Va, p.k = 0 → opf w p q = vn (if w = wSum then rg (p.n + q.n) 9007199254740992 else (Int.gcd p.n q.n : Int)) := fun p q h => by unfold opf; rw [if_neg h3, if_pos h]
     rw [e _ c (by omega), e a b h4, e a _ h4, e b c (by omega)]
     congr 1
     by_cases h5 : w = wSum
     · rw [if_pos h5, if_pos h5, if_pos h5, if_pos h5]; exact rgN _ _ _
     · rw [if_neg h5, if_neg h5, if_neg h5, if_neg h5]
       show (Int.gcd (Int.gcd a.n b.n : Int) c.n : Int) = (Int.gcd a.n (Int.gcd b.n c.n : Int) : Int)
       rw [Int.gcd_assoc]
   · have e : ∀ p q : Va, ¬ p.k = 0 → opf w p q = vp (if w = wSum then ⟨rg (p.x + q.x) 16777216, rg (p.y + q.y) 16777216⟩ else Pt.cg (pp p) (pp q)) := fun p q h => by unfold opf; rw [if_neg h3, if_neg h]
     rw [e _ c (by omega), e a b h4, e a _ h4, e b c (by omega)]
     congr 1
     by_cases h5 : w = wSum
     · rw [if_pos h5, if_pos h5, if_pos h5, if_pos h5]; exact Pt.ext (rgP _ _ _) (rgP _ _ _)
     · rw [if_neg h5, if_neg h5, if_neg h5, if_neg h5]; exact cg_assoc _ _ _
theorem fo_yes {w : List UInt8} {a b : Va} (h : isF w = true ∧ rt a = true ∧ rt b = true) : fo w a b = if a.k = b.k ∧ okk w a.k = true then (opf w a b, 0) else (vz0, 13) := if_pos h
theorem fo_no {w : List UInt8} {a b : Va} (h : ¬ (isF w = true ∧ rt a = true ∧ rt b = true)) : fo w a b = (vz0, 1) := if_neg h
end Go.Proofs.Ytkbhnphkopgccaa.Jo
namespace Go.Proofs.Ytkbhnphkopgccaa.Pr
open Va St Go.Sort
abbrev Pr := List UInt8 × Va
def pz : Pr := ([], ⟨0, 0, [], 0, 0⟩)
instance : Inhabited Pr := ⟨pz⟩
def ck (a b : Pr) : Int := cS a.1 b.1
def kl (a b : Pr) : Bool := Op.bytesLess a.1 b.1
theorem ck_kl (a b : Pr) : decide (ck a b < 0) = kl a b := by
 unfold ck kl cS
 rcases less_total a.1 b.1 with h | h | h
 · rw [if_pos h, h]; rfl
 · rw [if_neg (by rw [less_asymm h]; simp), if_pos h, less_asymm h]; rfl
 · rw [h, less_irrefl]; rfl
theorem swo : SWO kl where
 irrefl := fun x => less_irrefl x.1
 trans := fun x y z h1 h2 => less_trans h1 h2
 ntrans := fun x y z h1 h2 => by
  cases h : kl x z with
  | false => rfl
  | true =>
    rcases less_total y.1 z.1 with g | g | g
    · rcases less_total x.1 y.1 with f | f | f
      · exact absurd (show kl x y = true from f) (by rw [h1]; simp)
      · exact absurd (show kl y z = true from g) (by rw [h2]; simp)
      · exact absurd (show kl y z = true from g) (by rw [h2]; simp)
    · have := less_trans (show Op.bytesLess x.1 z.1 = true from h) g
      exact absurd (show kl x y = true from this) (by rw [h1]; simp)
    · have e : kl x y = kl x z := by unfold kl; rw [g]
      rw [← e, h1] at h; cases h
def Od (l : List Pr) : Prop := l.Pairwise fun a b => kl b a = false
def ky (k : List UInt8) (l : List Pr) : List Pr := l.filter fun p => decide (p.1 = k)
theorem cls_key (k : List UInt8) : Cls kl fun p => decide (p.1 = k) := fun x y hx hy => by
 have e1 := of_decide_eq_true hx; have e2 := of_decide_eq_true hy
 unfold kl; rw [e1, e2]; exact less_irrefl k
def insb (p : Pr) : List Pr → List Pr
 | [] => [p]
 | x :: t => if kl x p = true then x :: insb p t else p :: x :: t
def sr : List Pr → List Pr
 | [] => []
 | p :: t => insb p (sr t)
theorem insb_mem (p x : Pr) (l : List Pr) : x ∈ insb p l ↔ x = p ∨ x ∈ l := by
 induction l with
 | nil => simp [insb]
 | cons y t ih =>
   unfold insb
   split
   · rw [List.mem_cons, ih, List.mem_cons]
     constructor
     · rintro (h | h | h) <;> simp [h]
     · rintro (h | h | h) <;> simp [h]
   · rw [List.mem_cons]
theorem insb_od (p : Pr) (l : List Pr) (h : Od l) : Od (insb p l) := by
 induction l with
 | nil => exact List.pairwise_singleton _ _
 | cons x t ih =>
   obtain ⟨h1, h2⟩ := List.pairwise_cons.1 h
   unfold insb
   split
   · rename_i hc
     refine List.pairwise_cons.2 ⟨fun y hy => ?_, ih h2⟩
     rcases (insb_mem p y t).1 hy with rfl | hy
     · exact swo.asymmA hc
     · exact h1 y hy
   · rename_i hc
     refine List.pairwise_cons.2 ⟨fun y hy => ?_, h⟩
     rcases List.mem_cons.1 hy with rfl | hy
     · simpa using hc
     · exact swo.ntrans _ _ _ (h1 y hy) (by simpa using hc)
theorem insb_ky (p : Pr) (l : List Pr) (k : List UInt8) : ky k (insb p l) = ky k (p :: l) := by
 induction l with
 | nil => rfl
 | cons x t ih =>
   unfold insb
   split
   · rename_i hc
     unfold ky at ih ⊢
     by_cases hx : x.1 = k
     · have hp : p.1 ≠ k := fun e => by
        have : kl x p = false := by unfold kl; rw [hx, e]; exact less_irrefl k
        rw [this] at hc; cases hc
       simp only [List.filter_cons, ih]
       simp [hx, hp]
     · simp only [List.filter_cons, ih]
       simp [hx]
   · rfl
theorem sr_od (l : List Pr) : Od (sr l) := by
 induction l with
 | nil => exact List.Pairwise.nil
 | cons p t ih => exact insb_od p _ ih
theorem sr_ky (l : List Pr) (k : List UInt8) : ky k (sr l) = ky k l := by
 induction l with
 | nil => rfl
 | cons p t ih =>
   show ky k (insb p (sr t)) = _
   rw [insb_ky]
   unfold ky at ih ⊢
   rw [List.filter_cons, List.filter_cons, ih]
theorem od_uniq (l m : List Pr) (hl : Od l) (hm : Od m) (h : ∀ k, ky k l = ky k m) : l = m := by
 have none : ∀ (l : List Pr) (k : List UInt8), (∀ x ∈ l, x.1 ≠ k) → ky k l = [] := fun l k hk => List.filter_eq_nil_iff.2 fun x hx => by simpa using hk x hx
 have key : ∀ (x : Pr) (l : List Pr), ky x.1 (x :: l) = x :: ky x.1 l := fun x l => List.filter_cons_of_pos (by simp)
 induction l generalizing m with
 | nil => cases m with
   | nil => rfl
   | cons y t => have := h y.1; rw [key] at this; cases this
 | cons x t ih =>
   cases m with
   | nil => have := h x.1; rw [key] at this; cases this
   | cons y u =>
     obtain ⟨a1, a2⟩ := List.pairwise_cons.1 hl
     obtain ⟨b1, b2⟩ := List.pairwise_cons.1 hm
     have e : x.1 = y.1 := by
      rcases less_total x.1 y.1 with g | g | g
      · have := h x.1
        rw [key, none (y :: u) x.1 fun z hz e => by
         rcases List.mem_cons.1 hz with rfl | hz
         · rw [e, less_irrefl] at g; cases g
         · have := b1 z hz
           unfold kl at this; rw [e, g] at this; cases this] at this
        cases this
      · have := h y.1
        rw [key, none (x :: t) y.1 fun z hz e => by
         rcases List.mem_cons.1 hz with rfl | hz
         · rw [e, less_irrefl] at g; cases g
         · have := a1 z hz
           unfold kl at this; rw [e, g] at this; cases this] at this
        cases this
      · exact g
     have hx := h x.1
     rw [key] at hx
     rw [e, key] at hx
     obtain ⟨e1, _⟩ := List.cons.inj hx
     subst e1
     congr 1
     refine ih u a2 b2 fun k => ?_
     have := h k
     unfold ky at this ⊢
     rw [List.filter_cons, List.filter_cons] at this
     split at this
     · exact (List.cons.inj this).2
     · exact this
theorem sr_uniq (l m : List Pr) (hl : Od l) (h : ∀ k, ky k l = ky k m) : l = sr m := od_uniq l (sr m) hl (sr_od m) fun k => by rw [h k, sr_ky]
theorem ky_append (k : List UInt8) (a b : List Pr) : ky k (a ++ b) = ky k a ++ ky k b := List.filter_append ..
theorem sr_len (l : List Pr) : (sr l).length = l.length := by
 have insl : ∀ (p : Pr) (l : List Pr), (insb p l).length = l.length + 1 := fun p l => by
  induction l with
  | nil => rfl
  | cons x t ih => unfold insb; split <;> simp [ih]
 induction l with
 | nil => rfl
 | cons p t ih => show (insb p (sr t)).length = _; rw [insl, ih]; rfl
theorem sr_mem (l : List Pr) (x : Pr) : x ∈ sr l ↔ x ∈ l := by
 have e : ∀ l : List Pr, x ∈ l ↔ x ∈ ky x.1 l := fun l => by simp [ky]
 rw [e, sr_ky, ← e]
theorem sr_of_srt {d d' : Array Pr} (h : Srt kl 0 d.size d d') : d'.toList = sr d.toList := by
 refine sr_uniq _ _ ?_ fun k => h.stab _ (cls_key k)
 rw [Od, List.pairwise_iff_getElem]
 intro i j hi hj hij
 have e := h.ord i j (Nat.zero_le _) hij (by rw [← h.size]; simpa using hj)
 rw [getElem!_pos d' i (by simpa using hi), getElem!_pos d' j (by simpa using hj)] at e
 simpa using e
end Go.Proofs.Ytkbhnphkopgccaa.Pr
namespace Go.Proofs.Ytkbhnphkopgccaa.So
open Va St Pr Go.Sort
section heap
variable (lt : Nat → Nat → Bool)
variable {lt} {f : Nat → Nat} {n a : Nat}
end heap
def rn (rs : List (List Pr)) (r : Nat) : List Pr := (rs[r]?).getD []
def hd (rs : List (List Pr)) (d : Nat → Nat) (r : Nat) : Pr := ((rn rs r)[d r]?).getD pz
end Go.Proofs.Ytkbhnphkopgccaa.So
namespace Go.Proofs.Ytkbhnphkopgccaa.So
open Va St Pr Jo Go.Sort
def fl (w : List UInt8) : Va → List Va → Va × Int
 | v, [] => (v, 0)
 | v, x :: t => if (fo w v x).2 = 0 then fl w (fo w v x).1 t else (vz0, (fo w v x).2)
def fg (w : List UInt8) : List Va → Va × Int
 | [] => (vz0, 0)
 | v :: t => fl w v t
def Gd (w : List UInt8) (v : Va) (t : List Va) : Prop := (∀ x ∈ t, x.k = v.k) ∧ (t = [] ∨ okk w v.k = true)
theorem fo_ok {w : List UInt8} (hw : isF w = true) {a b : Va} (ha : rt a = true) (hb : rt b = true) (hk : a.k = b.k) (ho : okk w a.k = true) : fo w a b = (opf w a b, 0) := by
 rw [fo_yes ⟨hw, ha, hb⟩, if_pos ⟨hk, ho⟩]
theorem fo_bad {w : List UInt8} (hw : isF w = true) {a b : Va} (ha : rt a = true) (hb : rt b = true) (h : ¬ (a.k = b.k ∧ okk w a.k = true)) : fo w a b = (vz0, 13) := by
 rw [fo_yes ⟨hw, ha, hb⟩, if_neg h]
theorem fl_good {w : List UInt8} (hw : isF w = true) : ∀ (t : List Va) (v : Va), rt v = true → (∀ x ∈ t, rt x = true) → Gd w v t → fl w v t = (t.foldl (opf w) v, 0) ∧ rt (t.foldl (opf w) v) = true ∧ (t.foldl (opf w) v).k = v.k := by
 intro t
 induction t with
 | nil => intro v hv _ _; exact ⟨rfl, hv, rfl⟩
 | cons x t ih =>
   intro v hv ht hg
   have hok : okk w v.k = true := hg.2.resolve_left (by simp)
   have hk := hg.1 x (List.mem_cons_self ..)
   have hx := ht x (List.mem_cons_self ..)
   obtain ⟨h1, h2⟩ := opf_right w hv hx hk.symm hok
   have hf := fo_ok hw hv hx hk.symm hok
   have := ih (opf w v x) h1 (fun y hy => ht y (List.mem_cons_of_mem _ hy)) ⟨fun y hy => by rw [h2]; exact hg.1 y (List.mem_cons_of_mem _ hy), .inr (by rw [h2]; exact hok)⟩
   show (if (fo w v x).2 = 0 then fl w (fo w v x).1 t else _) = _ ∧ _
   rw [hf, if_pos rfl]
   exact ⟨this.1, this.2.1, this.2.2.trans h2⟩
theorem fl_bad {w : List UInt8} (hw : isF w = true) : ∀ (t : List Va) (v : Va), rt v = true → (∀ x ∈ t, rt x = true) → ¬ Gd w v t → fl w v t = (vz0, 13) := by
 intro t
 induction t with
 | nil => intro v _ _ hg; exact absurd ⟨(fun x hx => by cases hx), .inl rfl⟩ hg
 | cons x t ih =>
   intro v hv ht hg
   have hx := ht x (List.mem_cons_self ..)
   show (if (fo w v x).2 = 0 then fl w (fo w v x).1 t else (vz0, (fo w v x).2)) = _
   by_cases hk : v.k = x.k ∧ okk w v.k = true
   · obtain ⟨h1, h2⟩ := opf_right w hv hx hk.1 hk.2
     rw [fo_ok hw hv hx hk.1 hk.2, if_pos rfl]
     refine ih _ h1 (fun y hy => ht y (List.mem_cons_of_mem _ hy)) fun h => hg ⟨fun y hy => ?_, .inr hk.2⟩
     rcases List.mem_cons.1 hy with rfl | hy
     · exact hk.1.symm
     · rw [h.1 y hy, h2]
   · rw [fo_bad hw hv hx hk]
     rfl
theorem foldl_parts {w : List UInt8} (y : Va) (hy : rt y = true) : ∀ (ys : List Va) (a : Va), rt a = true → (∀ x ∈ ys, rt x = true) → a.k = y.k → (∀ x ∈ ys, x.k = y.k) → okk w y.k = true →
 (y :: ys).foldl (opf w) a = opf w a (ys.foldl (opf w) y) := by
 intro ys
 induction ys generalizing y with
 | nil => intro a _ _ _ _ _; rfl
 | cons z ys ih =>
   intro a ha hr hak hk ho
   have hz := hr z (List.mem_cons_self ..)
   have hzk := hk z (List.mem_cons_self ..)
   obtain ⟨h1, h2⟩ := opf_right w hy hz hzk.symm ho
   have e := ih (opf w y z) h1 a ha (fun x hx => hr x (List.mem_cons_of_mem _ hx)) (by rw [h2]; exact hak) (fun x hx => by rw [h2]; exact hk x (List.mem_cons_of_mem _ hx)) (by rw [h2]; exact ho)
   show ys.foldl (opf w) (opf w (opf w a y) z) = opf w a (ys.foldl (opf w) (opf w y z))
   rw [← e]
   show ys.foldl (opf w) (opf w (opf w a y) z) = ys.foldl (opf w) (opf w a (opf w y z))
   rw [opf_assoc w ha hy hz hak hzk.symm (by rw [hak]; exact ho)]
theorem fg_parts {w : List UInt8} (hw : isF w = true) {xs ys : List Va} (hx : ∀ v ∈ xs, rt v = true) (hy : ∀ v ∈ ys, rt v = true) (x0 : xs ≠ []) (y0 : ys ≠ []) :
 ((fg w xs).2 = 0 → (fg w ys).2 = 0 → fg w (xs ++ ys) = fg w [(fg w xs).1, (fg w ys).1]) ∧ ((fg w xs).2 ≠ 0 ∨ (fg w ys).2 ≠ 0 → fg w (xs ++ ys) = (vz0, 13)) := by
 match xs, ys, x0, y0 with
 | a :: ta, b :: bs, _, _ =>
   have ha := hx a (List.mem_cons_self ..)
   have hb := hy b (List.mem_cons_self ..)
   have hta : ∀ v ∈ ta, rt v = true := fun v hv => hx v (List.mem_cons_of_mem _ hv)
   have hbs : ∀ v ∈ bs, rt v = true := fun v hv => hy v (List.mem_cons_of_mem _ hv)
   have hall : ∀ v ∈ ta ++ b :: bs, rt v = true := fun v hv => by
    rcases List.mem_append.1 hv with h | h
    · exact hta v h
    · exact hy v h
   show ((fl w a ta).2 = 0 → (fl w b bs).2 = 0 → fl w a (ta ++ b :: bs) = fl w (fl w a ta).1 [(fl w b bs).1]) ∧ ((fl w a ta).2 ≠ 0 ∨ (fl w b bs).2 ≠ 0 → fl w a (ta ++ b :: bs) = (vz0, 13))
   have gsub : Gd w a (ta ++ b :: bs) → Gd w a ta ∧ Gd w b bs := fun h => by
    have hok : okk w a.k = true := h.2.resolve_left (by simp)
    have hbk := h.1 b (by simp)
    exact ⟨⟨fun v hv => h.1 v (List.mem_append_left _ hv), .inr hok⟩, ⟨fun v hv => (h.1 v (by simp [hv])).trans hbk.symm, .inr (by rw [hbk]; exact hok)⟩⟩
   refine ⟨fun h1 h2 => ?_, fun h => ?_⟩
   · have g1 : Gd w a ta := Classical.byContradiction fun g => by rw [fl_bad hw ta a ha hta g] at h1; cases h1
     have g2 : Gd w b bs := Classical.byContradiction fun g => by rw [fl_bad hw bs b hb hbs g] at h2; cases h2
     obtain ⟨e1, r1, k1⟩ := fl_good hw ta a ha hta g1
     obtain ⟨e2, r2, k2⟩ := fl_good hw bs b hb hbs g2
     rw [e1, e2]
     by_cases g : Gd w a (ta ++ b :: bs)
     · obtain ⟨e3, _, _⟩ := fl_good hw _ a ha hall g
       have hok : okk w a.k = true := g.2.resolve_left (by simp)
       have hbk := g.1 b (by simp)
       rw [e3, List.foldl_append]
       have hp := foldl_parts (w := w) b hb bs (ta.foldl (opf w) a) r1 hbs (by rw [k1]; exact hbk.symm) g2.1 (by rw [hbk]; exact hok)
       rw [hp]
       show _ = (if (fo w (ta.foldl (opf w) a) (bs.foldl (opf w) b)).2 = 0 then ((fo w (ta.foldl (opf w) a) (bs.foldl (opf w) b)).1, (0 : Int)) else _)
       rw [fo_ok hw r1 r2 (by rw [k1, k2]; exact hbk.symm) (by rw [k1]; exact hok), if_pos rfl]
     · rw [fl_bad hw _ a ha hall g]
       have hn : ¬ ((ta.foldl (opf w) a).k = (bs.foldl (opf w) b).k ∧ okk w (ta.foldl (opf w) a).k = true) := fun h => by
        rw [k1, k2] at h
        refine g ⟨fun v hv => ?_, .inr h.2⟩
        rcases List.mem_append.1 hv with hv | hv
        · exact g1.1 v hv
        · rcases List.mem_cons.1 hv with rfl | hv
          · exact h.1.symm
          · rw [g2.1 v hv]; exact h.1.symm
       show _ = (if (fo w (ta.foldl (opf w) a) (bs.foldl (opf w) b)).2 = 0 then _ else (vz0, (fo w (ta.foldl (opf w) a) (bs.foldl (opf w) b)).2))
       rw [fo_bad hw r1 r2 hn]
       rfl
   · refine fl_bad hw _ a ha hall fun g => ?_
     obtain ⟨g1, g2⟩ := gsub g
     rcases h with h | h
     · exact h (by rw [(fl_good hw ta a ha hta g1).1])
     · exact h (by rw [(fl_good hw bs b hb hbs g2).1])
def vk (k : List UInt8) (l : List Pr) : List Va := (ky k l).map (·.2)
structure FoldY (w : List UInt8) (l m : List Pr) : Prop where
 od : Od m
 ok : ∀ k, vk k l ≠ [] → (fg w (vk k l)).2 = 0
 ky : ∀ k, ky k m = if vk k l = [] then [] else [(k, (fg w (vk k l)).1)]
def FoldN (w : List UInt8) (l : List Pr) (e : Int) : Prop := e ≠ 0 ∧ ∃ k, vk k l ≠ [] ∧ (fg w (vk k l)).2 = e
theorem FoldY.uniq {w : List UInt8} {l l' m m' : List Pr} (h : FoldY w l m) (h' : FoldY w l' m') (he : ∀ k, (vk k l = [] ↔ vk k l' = []) ∧ (vk k l ≠ [] → (fg w (vk k l)).1 = (fg w (vk k l')).1)) : m = m' := by
 refine od_uniq m m' h.od h'.od fun k => ?_
 rw [h.ky, h'.ky]
 by_cases e : vk k l = []
 · rw [if_pos e, if_pos ((he k).1.1 e)]
 · rw [if_neg e, if_neg (fun h => e ((he k).1.2 h)), (he k).2 e]
theorem fg_right {w : List UInt8} (hw : isF w = true) {xs : List Va} (hx : ∀ v ∈ xs, rt v = true) (h0 : xs ≠ []) (h : (fg w xs).2 = 0) : rt (fg w xs).1 = true := by
 match xs, h0 with
 | a :: ta, _ =>
   have g : Gd w a ta := Classical.byContradiction fun g => by
    have e := fl_bad hw ta a (hx a (List.mem_cons_self ..)) (fun v hv => hx v (List.mem_cons_of_mem _ hv)) g
    have h' : (fl w a ta).2 = 0 := h
    rw [e] at h'; cases h'
   obtain ⟨e, r, _⟩ := fl_good hw ta a (hx a (List.mem_cons_self ..)) (fun v hv => hx v (List.mem_cons_of_mem _ hv)) g
   show rt (fl w a ta).1 = true
   rw [e]; exact r
theorem vk_append (k : List UInt8) (a b : List Pr) : vk k (a ++ b) = vk k a ++ vk k b := by unfold vk; rw [ky_append, List.map_append]
theorem vk_sr (k : List UInt8) (l : List Pr) : vk k (sr l) = vk k l := by unfold vk; rw [sr_ky]
theorem folds_again {w : List UInt8} (hw : isF w = true) {l1 l2 ma mb : List Pr} (hr : ∀ p ∈ l1 ++ l2, rt p.2 = true) (ha : FoldY w l1 ma) (hb : FoldY w l2 mb) (k : List UInt8) :
 (vk k (l1 ++ l2) = [] ↔ vk k (ma ++ mb) = []) ∧ (vk k (l1 ++ l2) ≠ [] → fg w (vk k (l1 ++ l2)) = fg w (vk k (ma ++ mb))) := by
 have hvr : ∀ l' : List Pr, (∀ p ∈ l', p ∈ l1 ++ l2) → ∀ v ∈ vk k l', rt v = true := fun l' hs v hv => by
  unfold vk at hv
  obtain ⟨p, hp, rfl⟩ := List.mem_map.1 hv
  exact hr p (hs p ((List.mem_filter.1 hp).1))
 have r1 := hvr l1 fun p hp => List.mem_append_left _ hp
 have r2 := hvr l2 fun p hp => List.mem_append_right _ hp
 have e1 : vk k ma = if vk k l1 = [] then [] else [(fg w (vk k l1)).1] := by
  show (ky k ma).map (·.2) = _
  rw [ha.ky]; split <;> rfl
 have e2 : vk k mb = if vk k l2 = [] then [] else [(fg w (vk k l2)).1] := by
  show (ky k mb).map (·.2) = _
  rw [hb.ky]; split <;> rfl
 rw [vk_append, vk_append, e1, e2]
 have one : ∀ x : Va, fg w [x] = (x, 0) := fun x => rfl
 by_cases h1 : vk k l1 = []
 · rw [if_pos h1, h1, List.nil_append, List.nil_append]
   by_cases h2 : vk k l2 = []
   · rw [if_pos h2, h2]; exact ⟨Iff.rfl, fun h => absurd rfl h⟩
   · rw [if_neg h2]
     refine ⟨⟨fun h => absurd h h2, fun h => by cases h⟩, fun _ => ?_⟩
     rw [one, ← hb.ok k h2]
 · rw [if_neg h1]
   by_cases h2 : vk k l2 = []
   · rw [if_pos h2, h2, List.append_nil, List.append_nil]
     refine ⟨⟨fun h => absurd h h1, fun h => by cases h⟩, fun _ => ?_⟩
     rw [one, ← ha.ok k h1]
   · rw [if_neg h2]
     refine ⟨⟨fun h => absurd (List.append_eq_nil_iff.1 h).1 h1, fun h => by cases h⟩, fun _ => ?_⟩
     exact (fg_parts hw r1 r2 h1 h2).1 (ha.ok k h1) (hb.ok k h2)
theorem folds_err {w : List UInt8} (hw : isF w = true) {l1 l2 : List Pr} (hr : ∀ p ∈ l1 ++ l2, rt p.2 = true) {e : Int} (h : FoldN w l1 e ∨ FoldN w l2 e) : ∃ k, vk k (l1 ++ l2) ≠ [] ∧ (fg w (vk k (l1 ++ l2))).2 = 13 := by
 have hvr : ∀ (k : List UInt8) (l' : List Pr), (∀ p ∈ l', p ∈ l1 ++ l2) → ∀ v ∈ vk k l', rt v = true := fun k l' hs v hv => by
  unfold vk at hv
  obtain ⟨p, hp, rfl⟩ := List.mem_map.1 hv
  exact hr p (hs p ((List.mem_filter.1 hp).1))
 have bad : ∀ xs : List Va, xs ≠ [] → (∀ v ∈ xs, rt v = true) → (fg w xs).2 ≠ 0 → (fg w xs).2 = 13 := fun xs h0 hx hne => by
  match xs, h0 with
  | a :: ta, _ =>
    have ra := hx a (List.mem_cons_self ..)
    have ras : ∀ v ∈ ta, rt v = true := fun v hv => hx v (List.mem_cons_of_mem _ hv)
    show (fl w a ta).2 = 13
    rw [fl_bad hw ta a ra ras fun g => hne (by show (fl w a ta).2 = 0; rw [(fl_good hw ta a ra ras g).1])]
 rcases h with ⟨he, k, h0, h1⟩ | ⟨he, k, h0, h1⟩
 · have r1 := hvr k l1 fun p hp => List.mem_append_left _ hp
   have r2 := hvr k l2 fun p hp => List.mem_append_right _ hp
   refine ⟨k, by rw [vk_append]; exact fun h => h0 (List.append_eq_nil_iff.1 h).1, ?_⟩
   rw [vk_append]
   by_cases h2 : vk k l2 = []
   · rw [h2, List.append_nil]; exact bad _ h0 r1 (by rw [h1]; exact he)
   · rw [(fg_parts hw r1 r2 h0 h2).2 (.inl (by rw [h1]; exact he))]
 · have r1 := hvr k l1 fun p hp => List.mem_append_left _ hp
   have r2 := hvr k l2 fun p hp => List.mem_append_right _ hp
   refine ⟨k, by rw [vk_append]; exact fun h => h0 (List.append_eq_nil_iff.1 h).2, ?_⟩
   rw [vk_append]
   by_cases h2 : vk k l1 = []
   · rw [h2, List.nil_append]; exact bad _ h0 r2 (by rw [h1]; exact he)
   · rw [(fg_parts hw r1 r2 h2 h0).2 (.inr (by rw [h1]; exact he))]
end Go.Proofs.Ytkbhnphkopgccaa.So
namespace Go.Proofs.Ytkbhnphkopgccaa.St
open Go.Proofs Go.RowKit Go.Shelf Go.Lib Go.Sort
structure StL (P : Program) : Prop where
 mixed : P.follows .mixedOrders = true
 fI : P.funcs[78]? = some Try.f78
 fM : P.funcs[79]? = some Try.f79
 fR : P.funcs[90]? = some Try.f90
 fS : P.funcs[99]? = some Try.f99
 fT : P.funcs[57]? = some Try.f57
 fO : P.funcs[36]? = some Try.f36
 t0 : P.underlying 0 = some (TypeDesc.tuple #[])
 a0 : ∀ w, (isAgg 0).run P w = .ok false w
 z0 : ∀ w, (Go.sizeOf 0).run P w = .ok 1 w
 v0 : ∀ w, (zeroValue 0).run P w = .ok (Value.tuple #[]) w
 t3 : P.underlying 3 = some (TypeDesc.int IntKind.i64)
 a3 : ∀ w, (isAgg 3).run P w = .ok false w
 z3 : ∀ w, (Go.sizeOf 3).run P w = .ok 1 w
 v3 : ∀ w, (zeroValue 3).run P w = .ok (Value.int IntKind.i64 0) w
 t4 : P.underlying 4 = some (TypeDesc.bool)
 a4 : ∀ w, (isAgg 4).run P w = .ok false w
 z4 : ∀ w, (Go.sizeOf 4).run P w = .ok 1 w
 v4 : ∀ w, (zeroValue 4).run P w = .ok (Value.bool false) w
 t22 : P.underlying 22 = some (TypeDesc.slice 49)
 a22 : ∀ w, (isAgg 22).run P w = .ok false w
 z22 : ∀ w, (Go.sizeOf 22).run P w = .ok 1 w
 v22 : ∀ w, (zeroValue 22).run P w = .ok (Value.slice none 0 0) w
 t25 : P.underlying 71 = some (TypeDesc.func #[49, 49] #[3] false)
 a25 : ∀ w, (isAgg 71).run P w = .ok false w
 z25 : ∀ w, (Go.sizeOf 71).run P w = .ok 1 w
 v25 : ∀ w, (zeroValue 71).run P w = .ok (Value.nilFunc) w
 tu : P.underlying 122 = some (TypeDesc.int IntKind.u64)
 au : ∀ w, (isAgg 122).run P w = .ok false w
 zu : ∀ w, (Go.sizeOf 122).run P w = .ok 1 w
 vu : ∀ w, (zeroValue 122).run P w = .ok (Value.int IntKind.u64 0) w
theorem stL : StL Try.prog where
 mixed := by kernel_rfl
 fI := by kernel_rfl
 fM := by kernel_rfl
 fR := by kernel_rfl
 fS := by kernel_rfl
 fT := by kernel_rfl
 fO := by kernel_rfl
 t0 := by kernel_rfl
 a0 := fun _ => by kernel_rfl
 z0 := fun _ => by kernel_rfl
 v0 := fun _ => by kernel_rfl
 t3 := by kernel_rfl
 a3 := fun _ => by kernel_rfl
 z3 := fun _ => by kernel_rfl
 v3 := fun _ => by kernel_rfl
 t4 := by kernel_rfl
 a4 := fun _ => by kernel_rfl
 z4 := fun _ => by kernel_rfl
 v4 := fun _ => by kernel_rfl
 t22 := by kernel_rfl
 a22 := fun _ => by kernel_rfl
 z22 := fun _ => by kernel_rfl
 v22 := fun _ => by kernel_rfl
 t25 := by kernel_rfl
 a25 := fun _ => by kernel_rfl
 z25 := fun _ => by kernel_rfl
 v25 := fun _ => by kernel_rfl
 tu := by kernel_rfl
 au := fun _ => by kernel_rfl
 zu := fun _ => by kernel_rfl
 vu := fun _ => by kernel_rfl
def ren : Ren := ⟨fun | 20 => 78 | n => n, fun | 0 => 0 | 3 => 3 | 4 => 4 | 22 => 22 | 24 => 49 | 25 => 71 | n => n, fun n => n⟩
theorem StL.ins {P : Program} (L : StL P) : SlLaysF0.n20 P ren :=
 { mixed := L.mixed, f20 := ⟨Try.f78.name, by kernel_rfl, L.fI.trans (by kernel_rfl)⟩, t0 := L.t0, a0 := L.a0, z0 := L.z0, v0 := L.v0, t3 := L.t3, a3 := L.a3, z3 := L.z3, v3 := L.v3, t4 := L.t4, a4 := L.a4, z4 := L.z4, v4 := L.v4, t22 := L.t22, a22 := L.a22, z22 := L.z22, v22 := L.v22, t25 := L.t25, a25 := L.a25, z25 := L.z25, v25 := L.v25 }
section
variable {P : Program} {α : Type} [Inhabited α]
set_option maxHeartbeats 4000000 in
set_option maxRecDepth 1000000 in
theorem swapRange (L : StL P) (k : Nat) (aE : ∀ w, (isAgg 49).run P w = .ok true w) (zE : ∀ w, (Go.sizeOf 49).run P w = .ok k w) (enc : α → List Value) (g : Nat) (cb : Array Value) (blk off cap a b n : Nat) (d0 d : Array α) (w0 w : World)
 (R : RowK enc k w0 blk off d0) (hs : d0.size = d.size) (S : SWK enc k w0 blk off d w) (hab : a + n ≤ b) (hb : b + n ≤ d.size) (hsz : d.size < 4611686018427387904) :
 Calls P 99 #[.slice (some ⟨blk, off, none⟩) d.size cap, .int .i64 a, .int .i64 b, .int .i64 n, .func (.func g) #[] cb] w fun e w' => e = .returned (.tuple #[]) ∧ ∃ d', Sw a b n d d' ∧ SWK enc k w0 blk off d' w' := by
 have mixed := L.mixed
 have t0 := L.t0
 have a0 := L.a0
 have z0 := L.z0
 have v0 := L.v0
 have t3 := L.t3
 have a3 := L.a3
 have z3 := L.z3
 have v3 := L.v3
 have t4 := L.t4
 have a4 := L.a4
 have z4 := L.z4
 have v4 := L.v4
 have t22 := L.t22
 have a22 := L.a22
 have z22 := L.z22
 have v22 := L.v22
 have t25 := L.t25
 have a25 := L.a25
 have z25 := L.z25
 have v25 := L.v25
 have tu := L.tu
 have au := L.au
 have zu := L.zu
 have vu := L.vu
 have S0 : Aside (SWK enc k w0 blk off d w) := S
 clear S
 go_enter L.fS, Try.ntmps99
 go_wp2
 go_loopg [10] n (fun kx s10 wr => ∃ (i : Nat) (dk : Array α), s10 = .int .i64 i ∧ i ≤ n ∧ n - i ≤ kx ∧ dk.size = d.size ∧ Aside (Sw a b i d dk) ∧ Aside (SWK enc k w0 blk off dk wr))
 case atStart => exact ⟨0, d, rfl, Nat.zero_le _, Nat.le_refl _, rfl, Sw.zero a b d, S0⟩
 case round =>
  clear S0
  obtain ⟨i, dk, rfl, hi, hkx, hds, HS, S1⟩ := hrel
  by_cases hlt : i < n
  · have hltz : (i : Int) < (n : Int) := by omega
    go_wp2_with fail
    have ea1 : ((a : Int) + (i : Int)).toNat = a + i := by omega
    have pa1 : (0 : Int) ≤ (a : Int) + (i : Int) := by omega
    have ba1 : (a : Int) + (i : Int) < (d.size : Int) := by omega
    have ra1 : IntKind.i64.wrap ((a : Int) + (i : Int)) = (a : Int) + (i : Int) := by rw [IntKind.wrap_i64]; omega
    have ec1 : ((b : Int) + (i : Int)).toNat = b + i := by omega
    have pc1 : (0 : Int) ≤ (b : Int) + (i : Int) := by omega
    have bc1 : (b : Int) + (i : Int) < (d.size : Int) := by omega
    have rc1 : IntKind.i64.wrap ((b : Int) + (i : Int)) = (b : Int) + (i : Int) := by rw [IntKind.wrap_i64]; omega
    have S2 : Aside (SWK enc k w0 blk off (swp dk (a + i) (b + i)) ((wr.drew.setCells blk (off + (a + i) * k) (enc dk[b + i]!)).setCells blk (off + (b + i) * k) (enc dk[a + i]!))) := S1.out.swapped R (a + i) (b + i) (by omega) (by omega)
    have l1a := S1.out.ld1 R (by omega) P (a + i) (by omega)
    have l1b := S1.out.ld1 R (by omega) P (b + i) (by omega)
    have s1a := S1.out.st1 R (by omega) P (a + i) (by omega) dk[b + i]!
    have s1b := S1.out.st2 R (by omega) P (a + i) (b + i) (by omega) (by omega) dk[b + i]! dk[a + i]!
    have n1a : (enc dk[a + i]!).length = k := R.hk _
    have n1b : (enc dk[b + i]!).length = k := R.hk _
    generalize enc dk[a + i]! = cI1 at S2 l1a s1b n1a
    generalize enc dk[b + i]! = cJ1 at S2 l1b s1a s1b n1b
    clear S1
    go_wp2_with fail
    go_big_region_o
    clear l1a l1b s1a s1b
    generalize (wr.drew.setCells blk (off + (a + i) * k) cJ1).setCells blk (off + (b + i) * k) cI1 = w2 at S2 ⊢
    go_wp2
    go_roundg (n - (i + 1))
    case measure => omega
    case rel => exact ⟨i + 1, swp dk (a + i) (b + i), by go_num, by omega, Nat.le_refl _, by rw [size_swp]; exact hds, HS.out.step (by omega) (by omega), S2⟩
  · have hltz : ¬ (i : Int) < (n : Int) := by omega
    obtain rfl : i = n := by omega
    go_wp2
    go_end0
    exact ⟨rfl, dk, HS.out, S1.out⟩
set_option maxHeartbeats 4000000 in
set_option maxRecDepth 1000000 in
theorem rotate (L : StL P) (k : Nat) (aE : ∀ w, (isAgg 49).run P w = .ok true w) (zE : ∀ w, (Go.sizeOf 49).run P w = .ok k w) (enc : α → List Value) (g : Nat) (cb : Array Value) (blk off cap a m b : Nat) (d0 d : Array α) (w0 w : World)
 (R : RowK enc k w0 blk off d0) (hs : d0.size = d.size) (S : SWK enc k w0 blk off d w) (ham : a < m) (hmb : m < b) (hb : b ≤ d.size) (hsz : d.size < 4611686018427387904) :
 Calls P 90 #[.slice (some ⟨blk, off, none⟩) d.size cap, .int .i64 a, .int .i64 m, .int .i64 b, .func (.func g) #[] cb] w fun e w' => e = .returned (.tuple #[]) ∧ ∃ d', Rot a m b d d' ∧ SWK enc k w0 blk off d' w' := by
 have mixed := L.mixed
 have t0 := L.t0
 have a0 := L.a0
 have z0 := L.z0
 have v0 := L.v0
 have t3 := L.t3
 have a3 := L.a3
 have z3 := L.z3
 have v3 := L.v3
 have t4 := L.t4
 have a4 := L.a4
 have z4 := L.z4
 have v4 := L.v4
 have t22 := L.t22
 have a22 := L.a22
 have z22 := L.z22
 have v22 := L.v22
 have t25 := L.t25
 have a25 := L.a25
 have z25 := L.z25
 have v25 := L.v25
 have tu := L.tu
 have au := L.au
 have zu := L.zu
 have vu := L.vu
 have eS : ∀ args w, (callFunc 99 args).run P w = .ok (.enter 99 args) w := enters_of L.fS (by kernel_rfl) rfl
 have S0 : Aside (SWK enc k w0 blk off d w) := S
 clear S
 go_enter L.fR, Try.ntmps90
 go_wp2
 go_loopg [10, 11] (b - a) (fun kx s10 s11 wr => ∃ (i j : Nat) (dk : Array α), s10 = .int .i64 i ∧ s11 = .int .i64 j ∧ 1 ≤ i ∧ 1 ≤ j ∧ i + a ≤ m ∧ m + j ≤ b ∧ i + j ≤ kx ∧ dk.size = d.size ∧
  Aside (∀ d', Rot (m - i) m (m + j) dk d' → Rot a m b d d') ∧ Aside (SWK enc k w0 blk off dk wr))
 case atStart => exact ⟨m - a, b - m, d, by go_num, by go_num, by omega, by omega, by omega, by omega, by omega, rfl, fun d' h => by rw [show m - (m - a) = a by omega, show m + (b - m) = b by omega] at h; exact h, S0⟩
 case round =>
  clear S0
  obtain ⟨i, j, dk, rfl, rfl, hi, hj, him, hjb, hkx, hds, HR, S1⟩ := hrel
  have ri : IntKind.i64.wrap ((m : Int) - (i : Int)) = (m : Int) - (i : Int) := by rw [IntKind.wrap_i64]; omega
  rcases Nat.lt_trichotomy i j with hij | hij | hij
  · have hne : ¬ (i : Int) = (j : Int) := by omega
    have hgt : ¬ (j : Int) < (i : Int) := by omega
    have r1 : IntKind.i64.wrap ((m : Int) + (j : Int)) = (m : Int) + (j : Int) := by rw [IntKind.wrap_i64]; omega
    have r2 : IntKind.i64.wrap ((m : Int) + (j : Int) - (i : Int)) = (m : Int) + (j : Int) - (i : Int) := by rw [IntKind.wrap_i64]; omega
    have hsw := swapRange L k aE zE enc g cb blk off cap (m - i) (m + j - i) i d0 dk w0 wr R (by omega) S1.out (by omega) (by omega) (by omega)
    rw [hds, show ((m - i : Nat) : Int) = (m : Int) - (i : Int) by omega, show ((m + j - i : Nat) : Int) = (m : Int) + (j : Int) - (i : Int) by omega] at hsw
    go_wp2_with (go_at_fn 99; refine hsw.mono ?_; rintro e w1 ⟨rfl, d1, h1, S2⟩)
    go_roundg (i + (j - i))
    case measure => omega
    case rel => exact ⟨i, j - i, d1, rfl, by go_num, hi, by omega, him, by omega, Nat.le_refl _, h1.1.trans hds, fun d' h => HR.out d' (Rot.less hij (by omega) h1 h), S2⟩
  · subst hij
    have hsw := swapRange L k aE zE enc g cb blk off cap (m - i) m i d0 dk w0 wr R (by omega) S1.out (by omega) (by omega) (by omega)
    rw [hds, show ((m - i : Nat) : Int) = (m : Int) - (i : Int) by omega] at hsw
    go_wp2_with (go_at_fn 99; refine hsw.mono ?_; rintro e w1 ⟨rfl, d1, h1, S2⟩)
    go_end0
    exact ⟨rfl, d1, HR.out d1 (Rot.of_sw (by omega) h1), S2⟩
  · have hne : ¬ (i : Int) = (j : Int) := by omega
    have hgt : (j : Int) < (i : Int) := by omega
    have hsw := swapRange L k aE zE enc g cb blk off cap (m - i) m j d0 dk w0 wr R (by omega) S1.out (by omega) (by omega) (by omega)
    rw [hds, show ((m - i : Nat) : Int) = (m : Int) - (i : Int) by omega] at hsw
    go_wp2_with (go_at_fn 99; refine hsw.mono ?_; rintro e w1 ⟨rfl, d1, h1, S2⟩)
    go_roundg (i - j + j)
    case measure => omega
    case rel => exact ⟨i - j, j, d1, by go_num, rfl, by omega, hj, by omega, hjb, Nat.le_refl _, h1.1.trans hds, fun d' h => HR.out d' (Rot.more hij (by omega) h1 h), S2⟩
end
end Go.Proofs.Ytkbhnphkopgccaa.St
namespace Go.Proofs.Ytkbhnphkopgccaa.St
open Go.Sort
section
variable {α : Type} [Inhabited α] {lt : α → α → Bool}
inductive Runs (lt : α → α → Bool) (bs n : Nat) (d : Array α) : Nat → Prop
 | fin {a : Nat} (h : n ≤ a) : Runs lt bs n d a
 | run {a : Nat} (h : SortedIn lt a (min (a + bs) n) d) (t : Runs lt bs n d (a + bs)) : Runs lt bs n d a
inductive Done (lt : α → α → Bool) (bs : Nat) (d : Array α) : Nat → Prop
 | zero : Done lt bs d 0
 | run {a : Nat} (h : Done lt bs d a) (t : SortedIn lt a (a + bs) d) : Done lt bs d (a + bs)
theorem Runs.open {bs n a : Nat} {d : Array α} (h : Runs lt bs n d a) (ha : a < n) : SortedIn lt a (min (a + bs) n) d ∧ Runs lt bs n d (a + bs) := by
 cases h with
 | fin h => omega
 | run h t => exact ⟨h, t⟩
theorem Runs.same {bs n a : Nat} {d d' : Array α} (h : Runs lt bs n d a) (he : ∀ i, a ≤ i → d'[i]! = d[i]!) : Runs lt bs n d' a := by
 induction h with
 | fin h => exact .fin h
 | run h t ih => exact .run (si_same h fun i i1 _ => he i i1) (ih fun i hi => he i (by omega))
theorem Done.same {bs a : Nat} {d d' : Array α} (h : Done lt bs d a) (he : ∀ i, i < a → d'[i]! = d[i]!) : Done lt bs d' a := by
 induction h with
 | zero => exact .zero
 | run h t ih => exact .run (ih fun i hi => he i (by omega)) (si_same t fun i _ i2 => he i i2)
theorem Done.all {bs n a : Nat} {d : Array α} (h : Done lt bs d a) (hr : Runs lt bs n d a) (ha : a ≤ n) : Runs lt bs n d 0 := by
 induction h with
 | zero => exact hr
 | run h t ih => exact ih (.run (si_part t (Nat.le_refl _) (by omega)) hr) (by omega)
theorem Runs.last {bs n a : Nat} {d : Array α} (h : SortedIn lt a n d) (hb : n ≤ a + bs) : Runs lt bs n d a := .run (si_part h (Nat.le_refl _) (by omega)) (.fin hb)
def Pm (lt : α → α → Bool) (d d' : Array α) : Prop := PermIn 0 d.size d d' ∧ Stab lt d d'
theorem Pm.refl (d : Array α) : Pm lt d d := ⟨permIn_refl d 0 d.size, Stab.refl d⟩
theorem Pm.next {d d1 d2 : Array α} {a b : Nat} (h : Pm lt d d1) (k : Srt lt a b d1 d2) (hb : b ≤ d.size) : Pm lt d d2 :=
 ⟨permIn_trans _ _ _ _ _ h.1 (permIn_mono _ _ a b 0 d.size (Nat.zero_le _) hb (by rw [h.1.1]; exact Nat.le_refl _) k.perm), h.2.trans k.stab⟩
theorem Pm.done {d d' : Array α} (h : Pm lt d d') (ho : SortedIn lt 0 d.size d') : Srt lt 0 d.size d d' := ⟨h.1, h.2, ho⟩
end
end Go.Proofs.Ytkbhnphkopgccaa.St
namespace Go.Proofs.Ytkbhnphkopgccaa.Va
open Ov Tp Ga
def dg (c : UInt8) : Bool := decide (48 ≤ c.toNat ∧ c.toNat ≤ 57)
def tw (l : List UInt8) : Nat := (l.takeWhile dg).length
def sat (l : List UInt8) : Nat := l.foldl (fun a c => min (10 * a + (c.toNat - 48)) 9007199254740993) 0
def cd (l : List UInt8) : Nat × Nat × Nat :=
 if l = [] then (0, 0, 2) else if tw l = 0 ∨ (1 < tw l ∧ l.head? = some 48) then (0, 0, 6) else (sat (l.take (tw l)), tw l, 0)
end Go.Proofs.Ytkbhnphkopgccaa.Va
namespace Go.Proofs.Ytkbhnphkopgccaa.Ga
open Go.ChangeShapes Go.WideShapes Go.ChangeAt Go.RowKit Ov
theorem bcell {W w1 : World} (hb : Below W.heap.size W w1) : (∀ b o, b < W.heap.size → w1.cell? ⟨b, o, none⟩ = W.cell? ⟨b, o, none⟩) ∧ (∀ b o, b < W.heap.size → w1.frozen? ⟨b, o, none⟩ = W.frozen? ⟨b, o, none⟩) :=
 ⟨fun b o h => hb.cell (p := ⟨b, o, none⟩) h, fun b o h => hb.frozen (p := ⟨b, o, none⟩) h⟩
theorem below1 (w : World) (a : Obj) : Below w.heap.size w (w.alloc a) := (Below.refl _ _).alloc (Nat.le_refl _) _
theorem below2 (w : World) (a b : Obj) : Below w.heap.size w ((w.alloc a).alloc b) := (below1 w a).alloc (by simp) _
theorem fits_any (n : Int) (w : World) : Calls Try.prog 84 #[.int .i64 n] w fun e w' => e = .returned (.bool (fb n)) ∧ w = w' := by
 by_cases h1 : -16777216 ≤ n
 · by_cases h2 : n ≤ 16777216
   · have e : fb n = true := fb_of h1 h2
     rw [e]; clear e
     go_enter Try.func84, Try.ntmps84
     go_wp2_with (fail)
     go_ret
     exact ⟨rfl, rfl⟩
   · have e : fb n = false := decide_eq_false (by omega)
     rw [e]; clear e
     go_enter Try.func84, Try.ntmps84
     go_wp2_with (fail)
     go_ret
     exact ⟨rfl, rfl⟩
 · have e : fb n = false := decide_eq_false (by omega)
   rw [e]; clear e
   go_enter Try.func84, Try.ntmps84
   go_wp2_with (fail)
   go_ret
   exact ⟨rfl, rfl⟩
theorem right_any (x y : Int) (w : World) : Calls Try.prog 69 #[.agg #[.int .i64 x, .int .i64 y]] w fun e w' => e = .returned (.bool (rb ⟨x, y⟩)) ∧ Below w.heap.size w w' := by
 have e : rb ⟨x, y⟩ = (fb x && fb y) := rfl
 rw [e]; clear e
 have HX := Lib.hid (fits_any x)
 have HY := Lib.hid (fits_any y)
 generalize fb x = p at *
 generalize fb y = q at *
 cases p
 · go_enter Try.func69, Try.ntmps69
   go_wp2_with (fail)
   refine (HX.out _).mono ?_
   rintro e w' ⟨rfl, rfl⟩
   go_wp2_with (fail)
   go_ret
   exact ⟨rfl, (Below.refl _ _).alloc (Nat.le_refl _) _⟩
 · go_enter Try.func69, Try.ntmps69
   go_wp2_with (fail)
   refine (HX.out _).mono ?_
   rintro e w' ⟨rfl, rfl⟩
   go_wp2_with (fail)
   refine (HY.out _).mono ?_
   rintro e w' ⟨rfl, rfl⟩
   go_wp2_with (fail)
   go_ret
   exact ⟨rfl, (Below.refl _ _).alloc (Nat.le_refl _) _⟩
theorem both_any (x y u v : Int) (w : World) : Calls Try.prog 96 #[.agg #[.int .i64 x, .int .i64 y], .agg #[.int .i64 u, .int .i64 v]] w fun e w' => e = .returned (.bool (rb ⟨x, y⟩ && rb ⟨u, v⟩)) ∧ Below w.heap.size w w' := by
 have HX := Lib.hid (right_any x y)
 have HY := Lib.hid (right_any u v)
 generalize rb ⟨x, y⟩ = p at *
 generalize rb ⟨u, v⟩ = q at *
 cases p
 · go_enter Try.func96, Try.ntmps96
   go_wp2_with (fail)
   refine (HX.out _).mono ?_
   rintro e w1 ⟨rfl, hb⟩
   have HB := Lib.hid hb; clear hb
   go_wp2_with (fail)
   go_ret
   exact ⟨rfl, Below.next (((Below.refl _ _).alloc (Nat.le_refl _) _).alloc (by simp) _) HB.out⟩
 · go_enter Try.func96, Try.ntmps96
   go_wp2_with (fail)
   refine (HX.out _).mono ?_
   rintro e w1 ⟨rfl, hb⟩
   have HB := Lib.hid hb
   obtain ⟨hc, hf⟩ := bcell hb
   clear hb
   go_wp2_with (fail)
   refine (HY.out _).mono ?_
   rintro e w2 ⟨rfl, hb⟩
   have HB2 := Lib.hid hb; clear hb
   clear hc hf
   go_wp2_with (fail)
   go_ret
   exact ⟨rfl, Below.next (((Below.refl _ _).alloc (Nat.le_refl _) _).alloc (by simp) _) (Below.next HB.out HB2.out)⟩
theorem less_any (x y u v : Int) (w : World) : Calls Try.prog 100 #[.agg #[.int .i64 x, .int .i64 y], .agg #[.int .i64 u, .int .i64 v]] w (Gives (.bool (decide (x < u ∨ x = u ∧ y < v))) w) := by
 by_cases h1 : x = u
 · by_cases h2 : y < v
   · have hd : decide (x < u ∨ x = u ∧ y < v) = true := decide_eq_true (.inr ⟨h1, h2⟩)
     rw [hd]; clear hd
     subst h1
     go_enter Try.func100, Try.ntmps100
     go_wp2_with (fail)
     go_ret
     exact ⟨rfl, below2 w _ _⟩
   · have hd : decide (x < u ∨ x = u ∧ y < v) = false := decide_eq_false (by omega)
     rw [hd]; clear hd
     subst h1
     go_enter Try.func100, Try.ntmps100
     go_wp2_with (fail)
     go_ret
     exact ⟨rfl, below2 w _ _⟩
 · have hne : (x == u) = false := beq_eq_false_iff_ne.2 h1
   by_cases h2 : x < u
   · have hd : decide (x < u ∨ x = u ∧ y < v) = true := decide_eq_true (.inl h2)
     rw [hd]; clear hd h1
     go_enter Try.func100, Try.ntmps100
     go_wp2_with (fail)
     go_ret
     exact ⟨rfl, below2 w _ _⟩
   · have hd : decide (x < u ∨ x = u ∧ y < v) = false := decide_eq_false (by omega)
     rw [hd]; clear hd h1
     go_enter Try.func100, Try.ntmps100
     go_wp2_with (fail)
     go_ret
     exact ⟨rfl, below2 w _ _⟩
end Go.Proofs.Ytkbhnphkopgccaa.Ga
namespace Go.Proofs.Ytkbhnphkopgccaa.Va
open Go.ChangeShapes Go.WideShapes Go.ChangeAt Go.RowKit Ov
theorem number_any (n : Int) (w : World) : Calls Try.prog 66 #[.int .i64 n] w (Gives (.agg #[.int .i64 0, .int .i64 n, .string ⟨#[]⟩, .int .i64 0, .int .i64 0]) w) := by
 go_enter Try.func66, Try.ntmps66
 go_wp2_with (fail)
 refine bodyPost_ret (v := .agg #[.int .i64 0, .int .i64 n, .string ⟨#[]⟩, .int .i64 0, .int .i64 0]) (by simp [results, Try.results66, go_sem]) rfl ⟨rfl, ?_⟩
 exact box1 w _
theorem text_any (s : ByteArray) (w : World) : Calls Try.prog 67 #[.string s] w (Gives (.agg #[.int .i64 1, .int .i64 0, .string s, .int .i64 0, .int .i64 0]) w) := by
 go_enter Try.func67, Try.ntmps67
 go_wp2_with (fail)
 refine bodyPost_ret (v := .agg #[.int .i64 1, .int .i64 0, .string s, .int .i64 0, .int .i64 0]) (by simp [results, Try.results67, go_sem]) rfl ⟨rfl, ?_⟩
 exact box1 w _
theorem point_any (x y : Int) (w : World) : Calls Try.prog 68 #[.agg #[.int .i64 x, .int .i64 y]] w (Gives (.agg #[.int .i64 2, .int .i64 0, .string ⟨#[]⟩, .int .i64 x, .int .i64 y]) w) := by
 go_enter Try.func68, Try.ntmps68
 go_wp2_with (fail)
 refine bodyPost_ret (v := .agg #[.int .i64 2, .int .i64 0, .string ⟨#[]⟩, .int .i64 x, .int .i64 y]) (by simp [results, Try.results68, go_sem]) rfl ⟨rfl, ?_⟩
 exact box2 w _ _
theorem cmpI_any (a b : Int) (w : World) : Calls Try.prog 71 #[.int .i64 a, .int .i64 b] w fun e w' => e = .returned (.int .i64 (cI a b)) ∧ w = w' := by
 by_cases h1 : a < b
 · have he : cI a b = -1 := if_pos h1
   rw [he]; clear he
   go_enter Try.func71, Try.ntmps71
   go_wp2_with (go_in)
   go_ret
   exact ⟨rfl, rfl⟩
 · by_cases h2 : b < a
   · have he : cI a b = 1 := by unfold cI; rw [if_neg h1, if_pos h2]
     rw [he]; clear he
     go_enter Try.func71, Try.ntmps71
     go_wp2_with (go_in)
     go_ret
     exact ⟨rfl, rfl⟩
   · have he : cI a b = 0 := by unfold cI; rw [if_neg h1, if_neg h2]
     rw [he]; clear he
     go_enter Try.func71, Try.ntmps71
     go_wp2_with (go_in)
     go_ret
     exact ⟨rfl, rfl⟩
theorem cmpS_any (a b : ByteArray) (w : World) : Calls Try.prog 58 #[.string a, .string b] w fun e w' => e = .returned (.int .i64 (cS a.data.toList b.data.toList)) ∧ w = w' := by
 rw [← ByteArray.toList_eq, ← ByteArray.toList_eq]
 rcases less_total a.toList b.toList with h | h | h
 · rw [cS_lt h]
   go_enter Try.func58, Try.ntmps58
   go_wp2_with (go_in)
   go_ret
   exact ⟨rfl, rfl⟩
 · rw [cS_gt h]
   have h1 := less_asymm h
   have h2 : (a.toList == b.toList) = false := by
    rw [beq_eq_false_iff_ne]; intro e; rw [e, less_irrefl] at h; cases h
   go_enter Try.func58, Try.ntmps58
   go_wp2_with (go_in)
   go_ret
   exact ⟨rfl, rfl⟩
 · have h1 : Op.bytesLess a.toList b.toList = false := by rw [h]; exact less_irrefl _
   have h2 : (a.toList == b.toList) = true := by rw [beq_iff_eq]; exact h
   have he : cS a.toList b.toList = 0 := by rw [h]; exact cS_self _
   rw [he]; clear he h
   go_enter Try.func58, Try.ntmps58
   go_wp2_with (go_in)
   go_ret
   exact ⟨rfl, rfl⟩
end Go.Proofs.Ytkbhnphkopgccaa.Va
namespace Go.Proofs.Ytkbhnphkopgccaa.Va
open Ov Tp Ga
def cw (l : List UInt8) : Int × Nat × Nat :=
 if l.head? = some 45 then
  (if (cd l.tail).2.2 ≠ 0 then (0, 0, (cd l.tail).2.2) else if (cd l.tail).1 = 0 then (0, 0, 6) else (-((cd l.tail).1 : Int), (cd l.tail).2.1 + 1, 0))
 else (((cd l).1 : Int), (cd l).2.1, (cd l).2.2)
end Go.Proofs.Ytkbhnphkopgccaa.Va
namespace Go.Proofs.Ytkbhnphkopgccaa.Pr
open Ov Tp Va
def bs1 (p : Pr) : List UInt8 := (nb p.1.length ++ p.1) ++ vb p.2
def lbs (l : List Pr) : List UInt8 := l.flatMap bs1
def lb (l : List Pr) : List UInt8 := nb l.length ++ lbs l
def rp (p : Pr) : Bool := decide (p.1.length ≤ 64) && rt p.2
def rl (l : List Pr) : Bool := l.all rp
theorem rp_iff (p : Pr) : rp p = true ↔ p.1.length ≤ 64 ∧ rt p.2 = true := by unfold rp; simp
theorem rl_iff (l : List Pr) : rl l = true ↔ ∀ p ∈ l, rp p = true := by unfold rl; simp
end Go.Proofs.Ytkbhnphkopgccaa.Pr
namespace Go.Proofs.Ytkbhnphkopgccaa.Jo
open Go.ChangeShapes Go.WideShapes Go.ChangeAt Go.RowKit Ov Ga Va
theorem rest_emod {n b : Int} (hb : 0 < b) : (n.tmod b + b).tmod b = n % b := by
 by_cases h : 0 ≤ n
 · rw [Int.tmod_eq_emod_of_nonneg h, Int.tmod_eq_emod_of_nonneg (by have := Int.emod_nonneg n (show b ≠ 0 by omega); omega), Int.add_emod_right, Int.emod_emod]
 · have h2 := Int.lt_tmod_of_pos n hb
   rw [Int.tmod_eq_emod_of_nonneg (by omega), Int.add_emod_right]
   conv => rhs; rw [← Int.tmod_add_mul_tdiv n b, Int.add_mul_emod_self_left]
set_option maxRecDepth 100000 in
theorem rest_any (n b : Int) (hb : 0 < b ∧ b ≤ 18014398509481984) (w : World) : Calls Try.prog 95 #[.int .i64 n, .int .i64 b] w (Gives (.int .i64 (n % b)) w) := by
 have h1 := Int.lt_tmod_of_pos n hb.1
 have h2 := Int.tmod_lt_of_pos n hb.1
 have h3 : wrap64 (n.tmod b + b) = n.tmod b + b := IntWalk.wrap64_in _ (by omega)
 have h4 := rest_emod (n := n) hb.1
 have h5 : (b == 0) = false := beq_eq_false_iff_ne.2 (by omega)
 go_enter Try.func95, Try.ntmps95
 go_wp2_with (fail)
 go_ret
 exact ⟨rfl, Below.refl _ _⟩
set_option maxRecDepth 100000 in
theorem round_any (n b : Int) (hb : 0 < b ∧ b ≤ 9007199254740992) (hn : -36028797018963968 ≤ n ∧ n ≤ 36028797018963968) (w : World) : Calls Try.prog 87 #[.int .i64 n, .int .i64 b] w (Gives (.int .i64 (rg n b)) w) := by
 have HC := Lib.hid (fun w => rest_any (n + b) (2 * b) ⟨by omega, by omega⟩ w)
 have h1 : wrap64 (n + b) = n + b := IntWalk.wrap64_in _ (by omega)
 have h2 : wrap64 (2 * b) = 2 * b := IntWalk.wrap64_in _ (by omega)
 have h3 := Int.emod_nonneg (n + b) (show 2 * b ≠ 0 by omega)
 have h4 := Int.emod_lt_of_pos (n + b) (show 0 < 2 * b by omega)
 have h5 : wrap64 ((n + b) % (2 * b) - b) = rg n b := IntWalk.wrap64_in _ (by omega)
 clear h3 h4 hb hn
 go_enter Try.func87, Try.ntmps87
 go_wp2_with (fail)
 refine (HC.out _).mono ?_
 rintro e w1 ⟨rfl, hb⟩
 have HB := Lib.hid hb; clear hb
 go_wp2_with (fail)
 go_ret
 exact ⟨by rw [h5]; rfl, HB.out⟩
theorem isF_text (s : ByteArray) : isF s.data.toList = (s.toList == [115, 117, 109] || s.toList == [109, 97, 120] || s.toList == [109, 105, 110] || s.toList == [103, 99, 100]) := by
 rw [ByteArray.toList_eq, Bool.eq_iff_iff]
 unfold isF wSum wMax wMin wGcd
 rw [decide_eq_true_iff]
 simp only [Bool.or_eq_true, beq_iff_eq, or_assoc]
theorem isF_any (s : ByteArray) (w : World) : Calls Try.prog 74 #[.string s] w (Gives (.bool (isF s.data.toList)) w) := by
 go_enter Try.func74, Try.ntmps74
 go_wp2_with (fail)
 all_goals
  go_ret
  refine ⟨?_, Below.refl _ _⟩
  rw [isF_text]; simp_all
theorem gcd_tmod (a b : Int) : Int.gcd b (a.tmod b) = Int.gcd a b := by
 rw [Int.gcd_comm a b]
 have h : a = a.tmod b + b * a.tdiv b := (Int.tmod_add_mul_tdiv a b).symm
 conv => rhs; rw [h]
 rw [Int.gcd_add_mul_left_right]
def JC (a b : Int) (w : World) (a' : Act) (w' : World) : Prop := ∃ (p q : Int) (u2 u3 u5 u6 u7 u8 u9 u10 u11 u12 u13 u14 : Value),
 (-9007199254740992 ≤ p ∧ p ≤ 9007199254740992) ∧ (-9007199254740992 ≤ q ∧ q ≤ 9007199254740992) ∧ Int.gcd p q = Int.gcd a b ∧ Below w.heap.size w w' ∧
 a' = { tmps := #[.int .i64 p, .int .i64 q, u2, u3, .int .i64 0, u5, u6, u7, u8, u9, u10, u11, u12, u13, u14], defers := [] }
def muC (a' : Act) (_ : World) : Nat := match a'.tmps[1]! with
 | .int _ q => q.natAbs
 | _ => 0
set_option maxRecDepth 100000 in
theorem common_any (a b : Int) (ha : -9007199254740992 ≤ a ∧ a ≤ 9007199254740992) (hb : -9007199254740992 ≤ b ∧ b ≤ 9007199254740992) (w : World) : Calls Try.prog 88 #[.int .i64 a, .int .i64 b] w (Gives (.int .i64 (Int.gcd a b : Int)) w) := by
 have HA := Lib.hid ha; have HH := Lib.hid hb; clear ha hb
 go_enter Try.func88, Try.ntmps88
 go_wp2_with (fail)
 refine wp_scope_once 0 (JC a b w) muC rfl (fun NX => ?_) ?_
 · go_wp2_with (fail)
   go_step3
   rename_i hK
   exact hK _ _ (NX.out _ _ ⟨a, b, _, _, _, _, _, _, _, _, _, _, _, _, HA.out, HH.out, rfl, Below.refl _ _, rfl⟩)
 · rintro a' w' ⟨p, q, u2, u3, u5, u6, u7, u8, u9, u10, u11, u12, u13, u14, hp, hq, hg, hbl, rfl⟩
   have HP := Lib.hid hp; have HQ := Lib.hid hq; have HG := Lib.hid hg; have HB := Lib.hid hbl; clear hp hq hg hbl
   by_cases h0 : q = 0
   · subst h0
     have HE : Hid (max p (wrap64 (-p)) = (Int.gcd a b : Int)) := by
      show _ = _
      have := HP.out
      rw [IntWalk.wrap64_in _ (by omega), ← HG.out, Int.gcd_zero_right]; omega
     go_wp2_with (fail)
     go_ret
     exact ⟨by rw [HE.out]; rfl, HB.out⟩
   · have h1 : (q == 0) = false := beq_eq_false_iff_ne.2 h0
     go_wp2_with (fail)
     go_region
     go_wp2_with (fail)
     go_step3
     have h2 : (p.tmod q).natAbs < q.natAbs := by rw [Int.natAbs_tmod]; exact Nat.mod_lt _ (by omega)
     have hq := HQ.out
     exact ⟨rfl, ⟨q, p.tmod q, _, _, _, _, _, _, _, _, _, _, _, _, HQ.out, by omega, by rw [gcd_tmod]; exact HG.out, HB.out.drew, rfl⟩, h2⟩
end Go.Proofs.Ytkbhnphkopgccaa.Jo
namespace Go.Proofs.Ytkbhnphkopgccaa.Ga
open Go.ChangeShapes Go.WideShapes Go.ChangeAt Go.RowKit Ov
theorem complex_any (x y : Int) (w : World) : Calls Try.prog 102 #[.agg #[.int .i64 x, .int .i64 y]] w fun e w' => e = .returned (.complex .f64 (floatOfInt .f64 x) (floatOfInt .f64 y)) ∧ Below w.heap.size w w' := by
 go_enter Try.func102, Try.ntmps102
 go_wp2_with (fail)
 go_ret
 exact ⟨rfl, (Below.refl _ _).alloc (Nat.le_refl _) _⟩
theorem spot_any {re im : Nat} {x y : Int} (hx : Is re x) (hy : Is im y) (bx : -9007199254740992 < x ∧ x < 9007199254740992) (by_ : -9007199254740992 < y ∧ y < 9007199254740992) (w : World) :
 Calls Try.prog 101 #[.complex .f64 re im] w fun e w' => e = .returned (.agg #[.int .i64 x, .int .i64 y]) ∧ Below w.heap.size w w' := by
 have r1 : ∀ w : World, (convert 130 3 (.float .f64 re)).run Try.prog w = .ok (.int .i64 x) w := fun w => run_convert_float_int w 130 3 .f64 .i64 re x (by rw [Try.underlying130]; rfl) Try.underlying3 (hx.toInt bx.1 bx.2)
 have r2 : ∀ w : World, (convert 130 3 (.float .f64 im)).run Try.prog w = .ok (.int .i64 y) w := fun w => run_convert_float_int w 130 3 .f64 .i64 im y (by rw [Try.underlying130]; rfl) Try.underlying3 (hy.toInt by_.1 by_.2)
 clear hx hy bx by_
 go_enter Try.func101, Try.ntmps101
 go_wp2_with (fail)
 refine bodyPost_ret (v := .agg #[.int .i64 x, .int .i64 y]) (by simp [results, Try.results101, go_sem]) rfl ⟨rfl, ?_⟩
 exact (Below.refl _ _).alloc (Nat.le_refl _) _
theorem mirror_any {x y : Int} (by_ : -16777216 ≤ y ∧ y ≤ 16777216) (w : World) : Calls Try.prog 103 #[.agg #[.int .i64 x, .int .i64 y]] w fun e w' => e = .returned (.agg #[.int .i64 x, .int .i64 (-y)]) ∧ Below w.heap.size w w' := by
 obtain ⟨h1, h2⟩ := by_
 go_enter Try.func103, Try.ntmps103
 go_wp2_with (fail)
 refine bodyPost_ret (v := .agg #[.int .i64 x, .int .i64 (-y)]) (by simp [results, Try.results103, go_sem]) rfl ⟨rfl, ?_⟩
 exact ((Below.refl _ _).alloc (Nat.le_refl _) _).alloc (by simp) _
theorem norm_any {x y : Int} (bx : -16777216 ≤ x ∧ x ≤ 16777216) (by_ : -16777216 ≤ y ∧ y ≤ 16777216) (w : World) : Calls Try.prog 104 #[.agg #[.int .i64 x, .int .i64 y]] w fun e w' => e = .returned (.int .i64 (x * x + y * y)) ∧ Below w.heap.size w w' := by
 obtain ⟨h1, h2⟩ := mul_big bx bx
 obtain ⟨h3, h4⟩ := mul_big by_ by_
 clear bx by_
 go_enter Try.func104, Try.ntmps104
 go_wp2_with (fail)
 go_ret
 exact ⟨rfl, (Below.refl _ _).alloc (Nat.le_refl _) _⟩
theorem natAbs_big {n : Int} (h : -281474976710656 ≤ n ∧ n ≤ 281474976710656) : n.natAbs < 4503599627370496 := by omega
theorem run_cmul {x y u v : Int} (hx : -16777216 ≤ x ∧ x ≤ 16777216) (hy : -16777216 ≤ y ∧ y ≤ 16777216) (hu : -16777216 ≤ u ∧ u ≤ 16777216) (hv : -16777216 ≤ v ∧ v ≤ 16777216) :
 ∃ re im, (∀ w : World, (binOp .mul 127 (.complex .f64 (floatOfInt .f64 x) (floatOfInt .f64 y)) (.complex .f64 (floatOfInt .f64 u) (floatOfInt .f64 v))).run Try.prog w = .ok (.complex .f64 re im) w) ∧
  Is re (x * u - y * v) ∧ Is im (x * v + y * u) := by
 obtain ⟨re, im, h, h1, h2⟩ := cmul (Is.ofInt (n := x) (by omega)) (Is.ofInt (n := y) (by omega)) (Is.ofInt (n := u) (by omega)) (Is.ofInt (n := v) (by omega))
  (natAbs_big (mul_big hx hu)) (natAbs_big (mul_big hy hv)) (natAbs_big (mul_big hx hv)) (natAbs_big (mul_big hy hu))
 exact ⟨re, im, fun w => run_complex_mul w _ _ _ _ _ _ _ h, h1, h2⟩
theorem cut_cases (t d : Int) (hd : 0 < d) : (0 ≤ t.tmod d ∧ t.tdiv d = t / d ∧ t.tdiv d * d ≤ t) ∨ (t.tmod d < 0 ∧ t.tdiv d - 1 = t / d ∧ t < t.tdiv d * d) := by
 have h1 := Int.mul_tdiv_add_tmod t d
 have h2 := Int.tmod_lt_of_pos t hd
 have h3 : -d < t.tmod d := by
  have := Int.lt_tmod_of_pos t hd; omega
 generalize t.tdiv d = q at *
 generalize t.tmod d = r at *
 rw [Int.mul_comm] at h1
 by_cases hr : 0 ≤ r
 · refine .inl ⟨hr, ?_, by omega⟩
   rw [← h1, show q * d + r = r + q * d by omega, Int.add_mul_ediv_right _ _ (by omega), Int.ediv_eq_zero_of_lt hr h2]; omega
 · refine .inr ⟨by omega, ?_, by omega⟩
   rw [← h1, show q * d + r = (r + d) + (q - 1) * d by rw [Int.sub_mul]; omega, Int.add_mul_ediv_right _ _ (by omega), Int.ediv_eq_zero_of_lt (by omega) (by omega)]; omega
theorem tdiv_le (t d M : Int) (h1 : -M ≤ t) (h2 : t ≤ M) (hM : 0 ≤ M) : -M ≤ t.tdiv d ∧ t.tdiv d ≤ M := by
 have h : (t.tdiv d).natAbs ≤ t.natAbs := by rw [Int.natAbs_tdiv]; exact Nat.div_le_self _ _
 omega
set_option maxHeartbeats 1000000 in
theorem nearest_any {n d : Int} (h1 : -1125899906842624 ≤ n) (h2 : n ≤ 1125899906842624) (h3 : 0 < d) (h4 : d ≤ 1125899906842624) (w : World) :
 Calls Try.prog 105 #[.int .i64 n, .int .i64 d] w fun e w' => e = .returned (.int .i64 (near n d)) ∧ w = w' := by
 obtain ⟨t1, t2⟩ := tdiv_le (2 * n + d) (2 * d) 4503599627370496 (by omega) (by omega) (by omega)
 have hn : near n d = (2 * n + d) / (2 * d) := rfl
 rcases cut_cases (2 * n + d) (2 * d) (by omega) with ⟨c1, c2, _⟩ | ⟨c1, c2, _⟩
 · have HE := Lib.hid (hn.trans c2.symm); clear hn c2
   go_enter Try.func105, Try.ntmps105
   go_wp2_with (fail)
   go_ret
   exact ⟨ret_int (by rw [HE.out]), rfl⟩
 · have HE := Lib.hid (hn.trans c2.symm); clear hn c2
   go_enter Try.func105, Try.ntmps105
   go_wp2_with (fail)
   go_ret
   exact ⟨ret_int (by rw [HE.out]), rfl⟩
end Go.Proofs.Ytkbhnphkopgccaa.Ga
namespace Go.Proofs.Ytkbhnphkopgccaa.Ov
open Go.ChangeShapes Go.WideShapes Go.ChangeAt Go.RowKit
structure Duo (w : World) (b : Nat) (u v : Value) : Prop where
 c0 : w.cell? ⟨b, 0, none⟩ = some u
 c1 : w.cell? ⟨b, 1, none⟩ = some v
 f0 : w.frozen? ⟨b, 0, none⟩ = false
 f1 : w.frozen? ⟨b, 1, none⟩ = false
section
variable {w w' : World} {b : Nat} {u v : Value}
theorem Duo.lt (h : Duo w b u v) : b < w.heap.size := block_lt_of_cell h.c0
theorem Duo.next (h : Duo w b u v) (k : Below w.heap.size w w') : Duo w' b u v :=
 ⟨(k.cell (p := ⟨b, 0, none⟩) h.lt).trans h.c0, (k.cell (p := ⟨b, 1, none⟩) h.lt).trans h.c1, (k.frozen (p := ⟨b, 0, none⟩) h.lt).trans h.f0, (k.frozen (p := ⟨b, 1, none⟩) h.lt).trans h.f1⟩
theorem Duo.old (h : Duo w b u v) (o : Obj) : Duo (w.alloc o) b u v := h.next ((Below.refl _ _).alloc (Nat.le_refl _) _)
theorem Duo.made (w : World) (t : TypeId) (u v : Value) : Duo (w.alloc (.cells #[u, v] t)) w.heap.size u v :=
 ⟨by simp [World.cell?_alloc_new], by simp [World.cell?_alloc_new], by simp [World.frozen?_alloc_new], by simp [World.frozen?_alloc_new]⟩
theorem Duo.drew (h : Duo w b u v) : Duo w.drew b u v := ⟨h.c0, h.c1, h.f0, h.f1⟩
theorem Duo.over (h : Duo w b u v) (q : Over w) : Duo q.val b u v := h.next q.property
theorem Duo.put (h : Duo w b u v) {c : Nat} (hc : c ≠ b) (o : Nat) (z : Value) : Duo (w.setCell ⟨c, o, none⟩ z) b u v :=
 ⟨by rw [World.cell?_setCell_other _ _ _ _ (fun e => hc (congrArg Addr.block e))]; exact h.c0, by rw [World.cell?_setCell_other _ _ _ _ (fun e => hc (congrArg Addr.block e))]; exact h.c1,
  by rw [World.frozen?_setCell]; exact h.f0, by rw [World.frozen?_setCell]; exact h.f1⟩
theorem Duo.put2 (h : Duo w b u v) {c : Nat} (hc : c ≠ b) (y z : Value) : Duo ((w.setCell ⟨c, 0, none⟩ y).setCell ⟨c, 1, none⟩ z) b u v := (h.put hc 0 y).put hc 1 z
theorem Duo.set (h : Duo w b u v) (y z : Value) : Duo ((w.setCell ⟨b, 0, none⟩ y).setCell ⟨b, 1, none⟩ z) b y z := by
 have n1 : (⟨b, 0, none⟩ : Addr) ≠ ⟨b, 1, none⟩ := fun e => by injection e with _ e; cases e
 have c0 : (w.setCell ⟨b, 0, none⟩ y).cell? ⟨b, 0, none⟩ = some y := World.cell?_setCell_same _ _ _ h.c0
 have c1 : (w.setCell ⟨b, 0, none⟩ y).cell? ⟨b, 1, none⟩ = some v := by rw [World.cell?_setCell_other _ _ _ _ n1]; exact h.c1
 exact ⟨by rw [World.cell?_setCell_other _ _ _ _ n1.symm]; exact c0, World.cell?_setCell_same _ _ _ c1, by rw [World.frozen?_setCell, World.frozen?_setCell]; exact h.f0, by rw [World.frozen?_setCell, World.frozen?_setCell]; exact h.f1⟩
theorem below_put2 {B : Nat} {a : World} (h : Below B a w) {c : Nat} (hc : B ≤ c) (y z : Value) : Below B a ((w.setCell ⟨c, 0, none⟩ y).setCell ⟨c, 1, none⟩ z) := (h.setCell (p := ⟨c, 0, none⟩) hc y).setCell (p := ⟨c, 1, none⟩) hc z
theorem Holds.duo {t : TypeId} {y : World} (h : Holds w (.cells #[u, v] t) b y) : Duo y b u v := ⟨h.cell 0, h.cell 1, h.frozen 0, h.frozen 1⟩
theorem Duo.made1 (w : World) (a : Obj) (t : TypeId) (u v : Value) : Duo ((w.alloc a).alloc (.cells #[u, v] t)) (w.heap.size + 1) u v := by
 have h := Duo.made (w.alloc a) t u v; rwa [World.size_alloc] at h
theorem Duo.made2 (w : World) (a b : Obj) (t : TypeId) (u v : Value) : Duo (((w.alloc a).alloc b).alloc (.cells #[u, v] t)) (w.heap.size + 1 + 1) u v := by
 have h := Duo.made ((w.alloc a).alloc b) t u v; rwa [World.size_alloc, World.size_alloc] at h
theorem Duo.made3 (w : World) (a b c : Obj) (t : TypeId) (u v : Value) : Duo ((((w.alloc a).alloc b).alloc c).alloc (.cells #[u, v] t)) (w.heap.size + 1 + 1 + 1) u v := by
 have h := Duo.made (((w.alloc a).alloc b).alloc c) t u v; rwa [World.size_alloc, World.size_alloc, World.size_alloc] at h
variable (t : TypeId) (x1 y1 x2 y2 x3 y3 x4 y4 : Value)
theorem boxes2 (w : World) : Below w.heap.size w ((w.alloc (.cells #[x1, y1] t)).alloc (.cells #[x2, y2] t)) ∧
 Duo ((w.alloc (.cells #[x1, y1] t)).alloc (.cells #[x2, y2] t)) w.heap.size x1 y1 ∧ Duo ((w.alloc (.cells #[x1, y1] t)).alloc (.cells #[x2, y2] t)) (w.heap.size + 1) x2 y2 :=
 ⟨box2 w _ _, (Duo.made w t x1 y1).old _, Duo.made1 w _ t x2 y2⟩
theorem boxes3 (w : World) : Below w.heap.size w (((w.alloc (.cells #[x1, y1] t)).alloc (.cells #[x2, y2] t)).alloc (.cells #[x3, y3] t)) ∧
 Duo (((w.alloc (.cells #[x1, y1] t)).alloc (.cells #[x2, y2] t)).alloc (.cells #[x3, y3] t)) w.heap.size x1 y1 ∧ Duo (((w.alloc (.cells #[x1, y1] t)).alloc (.cells #[x2, y2] t)).alloc (.cells #[x3, y3] t)) (w.heap.size + 1) x2 y2 ∧
 Duo (((w.alloc (.cells #[x1, y1] t)).alloc (.cells #[x2, y2] t)).alloc (.cells #[x3, y3] t)) (w.heap.size + 1 + 1) x3 y3 :=
 ⟨box3 w _ _ _, ((Duo.made w t x1 y1).old _).old _, (Duo.made1 w _ t x2 y2).old _, Duo.made2 w _ _ t x3 y3⟩
theorem boxes4 (w : World) : Below w.heap.size w ((((w.alloc (.cells #[x1, y1] t)).alloc (.cells #[x2, y2] t)).alloc (.cells #[x3, y3] t)).alloc (.cells #[x4, y4] t)) ∧
 Duo ((((w.alloc (.cells #[x1, y1] t)).alloc (.cells #[x2, y2] t)).alloc (.cells #[x3, y3] t)).alloc (.cells #[x4, y4] t)) w.heap.size x1 y1 ∧
 Duo ((((w.alloc (.cells #[x1, y1] t)).alloc (.cells #[x2, y2] t)).alloc (.cells #[x3, y3] t)).alloc (.cells #[x4, y4] t)) (w.heap.size + 1) x2 y2 ∧
 Duo ((((w.alloc (.cells #[x1, y1] t)).alloc (.cells #[x2, y2] t)).alloc (.cells #[x3, y3] t)).alloc (.cells #[x4, y4] t)) (w.heap.size + 1 + 1) x3 y3 ∧
 Duo ((((w.alloc (.cells #[x1, y1] t)).alloc (.cells #[x2, y2] t)).alloc (.cells #[x3, y3] t)).alloc (.cells #[x4, y4] t)) (w.heap.size + 1 + 1 + 1) x4 y4 :=
 ⟨box4 w _ _ _ _, (((Duo.made w t x1 y1).old _).old _).old _, ((Duo.made1 w _ t x2 y2).old _).old _, (Duo.made2 w _ _ t x3 y3).old _, Duo.made3 w _ _ _ t x4 y4⟩
end
end Go.Proofs.Ytkbhnphkopgccaa.Ov
namespace Go.Proofs.Ytkbhnphkopgccaa.Ga
open Go.ChangeShapes Go.WideShapes Go.ChangeAt Go.RowKit Ov
theorem alloc_spot (ρ : Operand → Value) (x : World) (d : Tmp) (p : String) (e : Array Edge) : (execOp ρ { dst := some d, op := Op.alloc 45, type := 0, pos := p, after := e, guard := none }).run Try.prog x = .ok (.value (.pointer (some ⟨x.heap.size, 0, none⟩))) (x.alloc (.cells #[.int .i64 0, .int .i64 0] 45)) := by
 simp [execOp, go_sem]
set_option maxHeartbeats 2000000 in
theorem divide_core (x y u v v' z1 z2 n q1 q2 r1 r2 : Int) (fx fy fu fv fv' fp fq re im re2 im2 re3 im3 : Nat) (w : World)
 (HC1 : Hid (∀ w, Calls Try.prog 102 #[.agg #[.int .i64 x, .int .i64 y]] w (Gives (.complex .f64 fx fy) w)))
 (HM : Hid (∀ w, Calls Try.prog 103 #[.agg #[.int .i64 u, .int .i64 v]] w (Gives (.agg #[.int .i64 u, .int .i64 v']) w)))
 (HC2 : Hid (∀ w, Calls Try.prog 102 #[.agg #[.int .i64 u, .int .i64 v']] w (Gives (.complex .f64 fu fv') w)))
 (hm1 : ∀ w : World, (binOp .mul 127 (.complex .f64 fx fy) (.complex .f64 fu fv')).run Try.prog w = .ok (.complex .f64 re im) w)
 (HS1 : Hid (∀ w, Calls Try.prog 101 #[.complex .f64 re im] w (Gives (.agg #[.int .i64 z1, .int .i64 z2]) w)))
 (HN : Hid (∀ w, Calls Try.prog 104 #[.agg #[.int .i64 u, .int .i64 v]] w (Gives (.int .i64 n) w)))
 (HQ1 : Hid (∀ w, Calls Try.prog 105 #[.int .i64 z1, .int .i64 n] w (Gives (.int .i64 q1) w)))
 (HQ2 : Hid (∀ w, Calls Try.prog 105 #[.int .i64 z2, .int .i64 n] w (Gives (.int .i64 q2) w)))
 (HC3 : Hid (∀ w, Calls Try.prog 102 #[.agg #[.int .i64 q1, .int .i64 q2]] w (Gives (.complex .f64 fp fq) w)))
 (HC4 : Hid (∀ w, Calls Try.prog 102 #[.agg #[.int .i64 u, .int .i64 v]] w (Gives (.complex .f64 fu fv) w)))
 (hm2 : ∀ w : World, (binOp .mul 127 (.complex .f64 fp fq) (.complex .f64 fu fv)).run Try.prog w = .ok (.complex .f64 re2 im2) w)
 (hm3 : ∀ w : World, (binOp .sub 127 (.complex .f64 fx fy) (.complex .f64 re2 im2)).run Try.prog w = .ok (.complex .f64 re3 im3) w)
 (HS2 : Hid (∀ w, Calls Try.prog 101 #[.complex .f64 re3 im3] w (Gives (.agg #[.int .i64 r1, .int .i64 r2]) w))) :
 Calls Try.prog 97 #[.agg #[.int .i64 x, .int .i64 y], .agg #[.int .i64 u, .int .i64 v]] w (Gives (.tuple #[.agg #[.int .i64 q1, .int .i64 q2], .agg #[.int .i64 r1, .int .i64 r2]]) w) := by
 go_enter Try.func97, Try.ntmps97
 go_wp2_with (fail)
 obtain ⟨hb, d2, d3, d4, d5⟩ := boxes4 45 (.int .i64 x) (.int .i64 y) (.int .i64 u) (.int .i64 v) (.int .i64 0) (.int .i64 0) (.int .i64 0) (.int .i64 0) w
 generalize (((w.alloc (.cells #[.int .i64 x, .int .i64 y] 45)).alloc (.cells #[.int .i64 u, .int .i64 v] 45)).alloc (.cells #[.int .i64 0, .int .i64 0] 45)).alloc (.cells #[.int .i64 0, .int .i64 0] 45) = w0 at *
 have HB := Lib.hid hb; clear hb
 have D2 := Lib.hid d2; have D3 := Lib.hid d3; have D4 := Lib.hid d4; have D5 := Lib.hid d5; clear d2 d3 d4 d5
 refine wp_over_alloc (O := .cells #[.int .i64 0, .int .i64 0] 45) 9 (by kernel_rfl) (by kernel_rfl) rfl rfl rfl (fun ρ x => alloc_spot ρ x _ _ _) (by kernel_rfl) ?_
 simp only [List.take_succ_cons, List.take_zero, List.drop_succ_cons, List.drop_zero]
 apply Exists.intro
 apply And.intro
 · intro x0
   have k1 : ∀ r : Over x0.val, r.val.cell? ⟨w.heap.size, 0, none⟩ = some (.int .i64 x) := fun r => ((D2.out.over x0).over r).c0
   have k2 : ∀ r : Over x0.val, r.val.cell? ⟨w.heap.size, 1, none⟩ = some (.int .i64 y) := fun r => ((D2.out.over x0).over r).c1
   have k3 : ∀ r : Over x0.val, r.val.cell? ⟨w.heap.size + 1, 0, none⟩ = some (.int .i64 u) := fun r => ((D3.out.over x0).over r).c0
   have k4 : ∀ r : Over x0.val, r.val.cell? ⟨w.heap.size + 1, 1, none⟩ = some (.int .i64 v) := fun r => ((D3.out.over x0).over r).c1
   repeat (go_big_quiet_step (first
    | with_reducible exact over_gives _ (HC1.out _)
    | with_reducible exact over_gives _ (HM.out _)
    | with_reducible exact over_gives _ (HC2.out _)
    | with_reducible exact over_gives _ (HS1.out _)
    | with_reducible exact over_gives _ (HN.out _)))
   refine wpQuiet_nil ?_
   rfl
 · rintro b w1 HO
   have hb := HO.1
   have DN := Lib.hid (HO.duo.set (.int .i64 z1) (.int .i64 z2))
   have hlo := HO.2.1
   obtain ⟨c0, c1, f0, f1⟩ := HO.duo
   have l2 := D2.out.lt; have l3 := D3.out.lt; have l4 := D4.out.lt; have l5 := D5.out.lt
   have E2 := Lib.hid ((D2.out.next hb).put2 (c := b) (by omega) (.int .i64 z1) (.int .i64 z2))
   have E3 := Lib.hid ((D3.out.next hb).put2 (c := b) (by omega) (.int .i64 z1) (.int .i64 z2))
   have E4 := Lib.hid ((D4.out.next hb).put2 (c := b) (by omega) (.int .i64 z1) (.int .i64 z2))
   have E5 := Lib.hid ((D5.out.next hb).put2 (c := b) (by omega) (.int .i64 z1) (.int .i64 z2))
   have HB2 := Lib.hid (below_put2 (Below.next HB.out hb) (c := b) (by omega) (.int .i64 z1) (.int .i64 z2))
   have hbl : b < w1.heap.size := block_lt_of_cell c0
   have HN4 : Hid (w.heap.size + 1 + 1 < b) := Lib.hid (by omega)
   have HN5 : Hid (w.heap.size + 1 + 1 + 1 < b) := Lib.hid (by omega)
   clear hb HO D2 D3 D4 D5 HB
   simp only [Act.put, List.setIfInBounds_toArray, List.set_cons_zero, List.set_cons_succ]
   go_wp2_with (fail)
   generalize ((w1.setCell ⟨b, 0, none⟩ (.int .i64 z1)).setCell ⟨b, 1, none⟩ (.int .i64 z2)) = w2 at *
   clear c0 c1 f0 f1 hbl hlo l2 l3 l4 l5
   have n2 : b ≠ w.heap.size + 1 + 1 := Nat.ne_of_gt HN4.out
   have n3 : b ≠ w.heap.size + 1 + 1 + 1 := Nat.ne_of_gt HN5.out
   refine wp_over_alloc (O := .cells #[.int .i64 0, .int .i64 0] 45) 9 (by kernel_rfl) (by kernel_rfl) rfl rfl rfl (fun ρ x => alloc_spot ρ x _ _ _) (by kernel_rfl) ?_
   simp only [List.take_succ_cons, List.take_zero, List.drop_succ_cons, List.drop_zero]
   apply Exists.intro
   apply And.intro
   · intro x0
     have k1 : ∀ r : Over x0.val, r.val.cell? ⟨b, 0, none⟩ = some (.int .i64 z1) := fun r => ((DN.out.over x0).over r).c0
     have k2 : ∀ r : Over x0.val, r.val.cell? ⟨b, 1, none⟩ = some (.int .i64 z2) := fun r => ((DN.out.over x0).over r).c1
     repeat (go_big_quiet_step (first
      | with_reducible exact over_gives _ (HQ1.out _)
      | with_reducible exact over_gives _ (HQ2.out _)))
     refine wpQuiet_nil ?_
     rfl
   · rintro c w3 HO
     have hb := HO.1
     have hlo := HO.2.1
     have l2 := E2.out.lt; have l3 := E3.out.lt; have l4 := E4.out.lt; have l5 := E5.out.lt
     have DC := Lib.hid (HO.duo.set (.int .i64 q1) (.int .i64 q2))
     have F2 := Lib.hid ((E2.out.next hb).put2 (c := c) (by omega) (.int .i64 q1) (.int .i64 q2))
     have F3 := Lib.hid ((E3.out.next hb).put2 (c := c) (by omega) (.int .i64 q1) (.int .i64 q2))
     have F4 := Lib.hid ((E4.out.next hb).put2 (c := c) (by omega) (.int .i64 q1) (.int .i64 q2))
     have F5 := Lib.hid ((E5.out.next hb).put2 (c := c) (by omega) (.int .i64 q1) (.int .i64 q2))
     have HB3 := Lib.hid (below_put2 (Below.next HB2.out hb) (c := c) (by have := HB2.out.size; omega) (.int .i64 q1) (.int .i64 q2))
     obtain ⟨c0, c1, f0, f1⟩ := HO.duo
     have hbl : c < w3.heap.size := block_lt_of_cell c0
     clear hb HO E2 E3 E4 E5 HB2 DN
     simp only [Act.put, List.setIfInBounds_toArray, List.set_cons_zero, List.set_cons_succ]
     go_wp2_with (fail)
     generalize ((w3.setCell ⟨c, 0, none⟩ (.int .i64 q1)).setCell ⟨c, 1, none⟩ (.int .i64 q2)) = w4 at *
     clear c0 c1 f0 f1 hbl hlo l2 l3 l4 l5
     have k1 : ∀ r : Over w4, r.val.cell? ⟨w.heap.size, 0, none⟩ = some (.int .i64 x) := fun r => (F2.out.over r).c0
     have k2 : ∀ r : Over w4, r.val.cell? ⟨w.heap.size, 1, none⟩ = some (.int .i64 y) := fun r => (F2.out.over r).c1
     have k3 : ∀ r : Over w4, r.val.cell? ⟨w.heap.size + 1, 0, none⟩ = some (.int .i64 u) := fun r => (F3.out.over r).c0
     have k4 : ∀ r : Over w4, r.val.cell? ⟨w.heap.size + 1, 1, none⟩ = some (.int .i64 v) := fun r => (F3.out.over r).c1
     have k5 : ∀ r : Over w4, r.val.cell? ⟨c, 0, none⟩ = some (.int .i64 q1) := fun r => (DC.out.over r).c0
     have k6 : ∀ r : Over w4, r.val.cell? ⟨c, 1, none⟩ = some (.int .i64 q2) := fun r => (DC.out.over r).c1
     refine wp_over_tail 10 (by kernel_rfl) (by kernel_rfl) ?_
     simp only [List.take_succ_cons, List.take_zero, List.drop_succ_cons, List.drop_zero]
     repeat (go_big_quiet_step (first
      | with_reducible exact over_gives _ (HC1.out _)
      | with_reducible exact over_gives _ (HC3.out _)
      | with_reducible exact over_gives _ (HC4.out _)
      | with_reducible exact over_gives _ (HS2.out _)))
     refine wpQuiet_nil ?_
     rintro w5 ⟨⟨w5, hb⟩, rfl⟩
     have HB4 := Lib.hid (Below.next HB3.out hb)
     obtain ⟨c0, c1, f0, f1⟩ := F4.out.next hb
     obtain ⟨e0, e1, g0, g1⟩ := F5.out.next hb
     have hz := (F5.out.next hb).lt
     have hz4 := (F4.out.next hb).lt
     clear hb k1 k2 k3 k4 k5 k6 n2 n3
     go_wp2_with (fail)
     refine bodyPost_ret (v := .tuple #[.agg #[.int .i64 q1, .int .i64 q2], .agg #[.int .i64 r1, .int .i64 r2]]) (by simp [results, Try.results97, go_sem, c0, c1, e0, e1]) rfl ⟨rfl, ?_⟩
     exact below_put2 (below_put2 HB4.out (c := w.heap.size + 1 + 1) (by omega) _ _) (c := w.heap.size + 1 + 1 + 1) (by omega) _ _
theorem sum_le {a b : Int} (h1 : -281474976710656 ≤ a ∧ a ≤ 281474976710656) (h2 : -281474976710656 ≤ b ∧ b ≤ 281474976710656) :
 (-562949953421312 ≤ a + b ∧ a + b ≤ 562949953421312) ∧ (-562949953421312 ≤ a - b ∧ a - b ≤ 562949953421312) := by omega
theorem run_csub {x y p q : Int} {re im : Nat} (hx : -16777216 ≤ x ∧ x ≤ 16777216) (hy : -16777216 ≤ y ∧ y ≤ 16777216) (hr : Is re p) (hi : Is im q) (hp : -562949953421312 ≤ p ∧ p ≤ 562949953421312) (hq : -562949953421312 ≤ q ∧ q ≤ 562949953421312) :
 ∃ a b, (∀ w : World, (binOp .sub 127 (.complex .f64 (floatOfInt .f64 x) (floatOfInt .f64 y)) (.complex .f64 re im)).run Try.prog w = .ok (.complex .f64 a b) w) ∧ Is a (x - p) ∧ Is b (y - q) := by
 obtain ⟨a, b, h, h1, h2⟩ := csub (Is.ofInt (n := x) (by omega)) (Is.ofInt (n := y) (by omega)) hr hi (by omega) (by omega)
 exact ⟨a, b, fun w => run_complex_sum w .sub (.inr rfl) _ _ _ _ _ _ _ _ h, h1, h2⟩
theorem divide_any {x y u v : Int} (ha : rb ⟨x, y⟩ = true) (hb : rb ⟨u, v⟩ = true) (h0 : (⟨u, v⟩ : Pt) ≠ Pt.zero) (w : World) :
 Calls Try.prog 97 #[.agg #[.int .i64 x, .int .i64 y], .agg #[.int .i64 u, .int .i64 v]] w
  (Gives (.tuple #[.agg #[.int .i64 (Pt.quo ⟨x, y⟩ ⟨u, v⟩).x, .int .i64 (Pt.quo ⟨x, y⟩ ⟨u, v⟩).y], .agg #[.int .i64 (Pt.rest ⟨x, y⟩ ⟨u, v⟩).x, .int .i64 (Pt.rest ⟨x, y⟩ ⟨u, v⟩).y]]) w) := by
 obtain ⟨hx, hy⟩ := rb_xy ha
 obtain ⟨hu, hv⟩ := rb_xy hb
 have hv' : -16777216 ≤ -v ∧ -v ≤ 16777216 := by omega
 obtain ⟨hp, hq⟩ := rb_yes (Pt.quo_right ha h0)
 obtain ⟨hr1, hr2⟩ := rb_yes (Pt.rest_right (a := ⟨x, y⟩) hb h0)
 obtain ⟨re, im, hm1, i1, i2⟩ := run_cmul hx hy hu hv'
 obtain ⟨re2, im2, hm2, j1, j2⟩ := run_cmul hp hq hu hv
 obtain ⟨s1, s1'⟩ := sum_le (mul_big hx hu) (mul_big hy hv')
 obtain ⟨s2, s2'⟩ := sum_le (mul_big hx hv') (mul_big hy hu)
 obtain ⟨s3, s3'⟩ := sum_le (mul_big hp hu) (mul_big hq hv)
 obtain ⟨s4, s4'⟩ := sum_le (mul_big hp hv) (mul_big hq hu)
 obtain ⟨re3, im3, hm3, k1, k2⟩ := run_csub hx hy j1 j2 s3' s4
 obtain ⟨s5, s5'⟩ := sum_le (mul_big hu hu) (mul_big hv hv)
 have hn : 0 < Pt.norm ⟨u, v⟩ := Pt.norm_pos h0
 refine divide_core x y u v (-v) (x * u - y * -v) (x * -v + y * u) (u * u + v * v) _ _ _ _ _ _ _ _ _ _ _ re im re2 im2 re3 im3 w (Lib.hid (complex_any x y)) (Lib.hid (mirror_any hv)) (Lib.hid (complex_any u (-v))) hm1
  (Lib.hid (spot_any i1 i2 (by omega) (by omega))) (Lib.hid (norm_any hu hv)) (Lib.hid fun w => ?_) (Lib.hid fun w => ?_) (Lib.hid (complex_any _ _)) (Lib.hid (complex_any u v)) hm2 hm3
  (Lib.hid (spot_any k1 k2 ?_ ?_))
 · exact (nearest_any (n := x * u - y * -v) (d := u * u + v * v) (by omega) (by omega) hn (by omega) w).mono fun e w' h => ⟨h.1, by rw [← h.2]; exact Below.refl _ _⟩
 · exact (nearest_any (n := x * -v + y * u) (d := u * u + v * v) (by omega) (by omega) hn (by omega) w).mono fun e w' h => ⟨h.1, by rw [← h.2]; exact Below.refl _ _⟩
 · omega
 · omega
def RelT (x y : Int) (N : Nat) (C I : Value) : Prop := ∃ (k re im : Nat), k ≤ N ∧ I = .int .i64 (k : Int) ∧ C = .complex .f64 re im ∧ Is re (Pt.turns k ⟨x, y⟩).x ∧ Is im (Pt.turns k ⟨x, y⟩).y
set_option maxHeartbeats 1000000 in
theorem turn_any {x y : Int} (h : rb ⟨x, y⟩ = true) (N : Nat) (hN : N ≤ 3) (w : World) :
 Calls Try.prog 106 #[.agg #[.int .i64 x, .int .i64 y], .int .i64 (N : Int)] w (Gives (.agg #[.int .i64 (Pt.turns N ⟨x, y⟩).x, .int .i64 (Pt.turns N ⟨x, y⟩).y]) w) := by
 have hr : ∀ k, (-16777216 ≤ (Pt.turns k ⟨x, y⟩).x ∧ (Pt.turns k ⟨x, y⟩).x ≤ 16777216) ∧ (-16777216 ≤ (Pt.turns k ⟨x, y⟩).y ∧ (Pt.turns k ⟨x, y⟩).y ≤ 16777216) := fun k => rb_yes (Pt.turns_right k h)
 have HT := Lib.hid hr; clear hr
 obtain ⟨hx, hy⟩ := rb_xy h
 have i1 : Is (floatOfInt .f64 x) x := Is.ofInt (by omega)
 have i2 : Is (floatOfInt .f64 y) y := Is.ofInt (by omega)
 have HC := Lib.hid (complex_any x y)
 generalize floatOfInt .f64 x = fx at *
 generalize floatOfInt .f64 y = fy at *
 have I1 := Lib.hid i1; have I2 := Lib.hid i2; clear i1 i2 hx hy h
 go_enter Try.func106, Try.ntmps106
 go_wp2_with (fail)
 refine (HC.out _).mono ?_
 rintro e w1 ⟨rfl, hb⟩
 obtain ⟨h2, d0, d1⟩ := boxes2 45 (.int .i64 x) (.int .i64 y) (.int .i64 0) (.int .i64 0) w
 have HB := Lib.hid (Below.next h2 hb)
 have HD := Lib.hid (d1.next hb)
 clear hb h2 d0 d1
 go_wp2_with (fail)
 go_loop [5, 9] (fun C I => RelT x y N C I) (fun _ I => N - (intOf I).toNat)
 case atStart => exact ⟨0, fx, fy, by omega, rfl, rfl, I1.out, I2.out⟩
 case round =>
  obtain ⟨k, re, im, hk, rfl, rfl, j1, j2⟩ := hrel
  by_cases hlt : k < N
  · obtain ⟨b1, b2⟩ := HT.out k
    obtain ⟨re', im', hm, m1, m2⟩ := cmul j1 j2 Is.zero Is.one (by omega) (by omega) (by omega) (by omega)
    have hrun : ∀ w : World, (binOp .mul 127 (.complex .f64 re im) (.complex .f64 0 4607182418800017408)).run Try.prog w = .ok (.complex .f64 re' im') w := fun w => run_complex_mul w _ _ _ _ _ _ _ hm
    have M1 : Hid (Is re' (Pt.turns (k + 1) ⟨x, y⟩).x) := by
     show Is re' (-(Pt.turns k ⟨x, y⟩).y)
     rwa [show (Pt.turns k ⟨x, y⟩).x * 0 - (Pt.turns k ⟨x, y⟩).y * 1 = -(Pt.turns k ⟨x, y⟩).y by omega] at m1
    have M2 : Hid (Is im' (Pt.turns (k + 1) ⟨x, y⟩).y) := by
     show Is im' ((Pt.turns k ⟨x, y⟩).x)
     rwa [show (Pt.turns k ⟨x, y⟩).x * 1 + (Pt.turns k ⟨x, y⟩).y * 0 = (Pt.turns k ⟨x, y⟩).x by omega] at m2
    clear hm m1 m2 j1 j2 b1 b2
    go_wp2_with (fail)
    go_round
    case rel => exact ⟨k + 1, re', im', by omega, by go_num, rfl, M1.out, M2.out⟩
    case measure => simp [intOf]; omega
  · obtain rfl : k = N := by omega
    obtain ⟨b1, b2⟩ := HT.out k
    have HS := Lib.hid (spot_any j1 j2 (by omega) (by omega))
    generalize (Pt.turns k ⟨x, y⟩).x = p at *
    generalize (Pt.turns k ⟨x, y⟩).y = q at *
    clear j1 j2 b1 b2
    go_wp2_with (fail)
    refine (HS.out _).mono ?_
    rintro e w2 ⟨rfl, hb⟩
    have HB2 := Lib.hid (Below.next HB.out hb)
    have hz := (HD.out.next hb).lt
    obtain ⟨e0, e1, g0, g1⟩ := HD.out.next hb
    clear hb
    go_wp2_with (fail)
    refine bodyPost_ret (v := .agg #[.int .i64 p, .int .i64 q]) (by simp [results, Try.results106, go_sem, e0, e1]) rfl ⟨rfl, ?_⟩
    exact below_put2 HB2.out (c := w.heap.size + 1) (by omega) _ _
def left (a : Pt) : Nat := if (0 < a.x ∧ 0 ≤ a.y) ∨ (a.x = 0 ∧ a.y = 0) then 0 else if a.y < 0 ∧ 0 ≤ a.x then 1 else if a.x < 0 ∧ a.y ≤ 0 then 2 else 3
theorem left_turn {a : Pt} (h : ¬ ((0 < a.x ∧ 0 ≤ a.y) ∨ (a.x = 0 ∧ a.y = 0))) : left a.turn < left a := by
 have tx : a.turn.x = -a.y := rfl
 have ty : a.turn.y = a.x := rfl
 unfold left
 rw [if_neg h, tx, ty]
 repeat' split
 all_goals omega
structure RelF (x y : Int) (w : World) (b c : Nat) (wr : World) (p q : Int) : Prop where
 right : rb ⟨p, q⟩ = true
 same : Pt.fs ⟨p, q⟩ = Pt.fs ⟨x, y⟩
 own : Duo wr b (.int .i64 p) (.int .i64 q)
 res : Duo wr c (.int .i64 0) (.int .i64 0)
 below : Below w.heap.size w wr
def cellInt (w : World) (b o : Nat) : Int := match w.cell? ⟨b, o, none⟩ with | some (.int _ n) => n | _ => 0
theorem cellInt_of {w : World} {b o : Nat} {k : IntKind} {n : Int} (h : w.cell? ⟨b, o, none⟩ = some (.int k n)) : cellInt w b o = n := by unfold cellInt; rw [h]
set_option maxHeartbeats 1000000 in
theorem first_any {x y : Int} (h : rb ⟨x, y⟩ = true) (w : World) :
 Calls Try.prog 98 #[.agg #[.int .i64 x, .int .i64 y]] w (Gives (.agg #[.int .i64 (Pt.fs ⟨x, y⟩).x, .int .i64 (Pt.fs ⟨x, y⟩).y]) w) := by
 have H := Lib.hid h; clear h
 go_enter Try.func98, Try.ntmps98
 go_wp2_with (fail)
 obtain ⟨h2, d0, d1⟩ := boxes2 45 (.int .i64 x) (.int .i64 y) (.int .i64 0) (.int .i64 0) w
 have HW : Hid (∃ p q, RelF x y w w.heap.size (w.heap.size + 1) ((w.alloc (.cells #[.int .i64 x, .int .i64 y] 45)).alloc (.cells #[.int .i64 0, .int .i64 0] 45)) p q) := Lib.hid ⟨x, y, H.out, rfl, d0, d1, h2⟩
 clear h2 d0 d1
 go_loopw [] (fun wr => ∃ p q, RelF x y w w.heap.size (w.heap.size + 1) wr p q) (fun wr => left ⟨cellInt wr w.heap.size 0, cellInt wr w.heap.size 1⟩)
 case atStart => exact HW.out
 case round =>
  obtain ⟨p, q, hF⟩ := hrel
  have HF := Lib.hid hF
  have HM1 : Hid (cellInt wr w.heap.size 0 = p) := Lib.hid (cellInt_of hF.own.c0)
  have HM2 : Hid (cellInt wr w.heap.size 1 = q) := Lib.hid (cellInt_of hF.own.c1)
  obtain ⟨c0, c1, f0, f1⟩ := hF.own
  obtain ⟨e0, e1, g0, g1⟩ := hF.res
  clear hF
  by_cases hd : (0 < p ∧ 0 ≤ q) ∨ (p = 0 ∧ q = 0)
  · have HE : Hid (Pt.fs ⟨x, y⟩ = ⟨p, q⟩) := by
     show _ = _
     rw [← HF.out.same]
     exact Pt.fs_done (hd.imp id (fun h => Pt.ext h.1 h.2))
    have hz := HF.out.res.lt
    have p0 : ¬ p < 0 := by omega
    have q0 : ¬ q < 0 := by omega
    by_cases hp : p = 0
    · have q1 : ¬ 0 < q := by omega
      have hpb : (p == 0) = true := beq_iff_eq.2 hp
      clear hd hp
      go_wp2_with (fail)
      refine bodyPost_ret (v := .agg #[.int .i64 p, .int .i64 q]) (by simp [results, Try.results98, go_sem, e0, e1]) rfl ⟨by rw [HE.out], ?_⟩
      exact below_put2 HF.out.below (c := w.heap.size + 1) (by omega) _ _
    · have hpb : (p == 0) = false := beq_eq_false_iff_ne.2 hp
      clear hd hp
      go_wp2_with (fail)
      refine bodyPost_ret (v := .agg #[.int .i64 p, .int .i64 q]) (by simp [results, Try.results98, go_sem, e0, e1]) rfl ⟨by rw [HE.out], ?_⟩
      exact below_put2 HF.out.below (c := w.heap.size + 1) (by omega) _ _
  · have HT : Hid (∀ w, Calls Try.prog 106 #[.agg #[.int .i64 p, .int .i64 q], .int .i64 1] w (Gives (.agg #[.int .i64 (-q), .int .i64 p]) w)) := Lib.hid (turn_any HF.out.right 1 (by omega))
    have HL : Hid (left ⟨-q, p⟩ < left ⟨p, q⟩) := Lib.hid (left_turn (a := ⟨p, q⟩) hd)
    have HS : Hid (Pt.fs ⟨-q, p⟩ = Pt.fs ⟨x, y⟩) := Lib.hid ((Pt.fs_turn (a := ⟨p, q⟩) (fun h => hd (.inl h)) (fun h => hd (.inr (by injection h with h1 h2; exact ⟨h1, h2⟩)))).trans HF.out.same)
    have HR : Hid (rb ⟨-q, p⟩ = true) := Lib.hid (Pt.turn_right HF.out.right)
    have hcase : p < 0 ∨ (¬ p < 0 ∧ q < 0) ∨ (¬ p < 0 ∧ ¬ q < 0 ∧ (p == 0) = true ∧ 0 < q) := by
     by_cases a1 : p < 0
     · exact .inl a1
     · by_cases a2 : q < 0
       · exact .inr (.inl ⟨a1, a2⟩)
       · exact .inr (.inr ⟨a1, a2, beq_iff_eq.2 (by omega), by omega⟩)
    clear hd
    generalize -q = q' at *
    rcases hcase with a1 | ⟨a1, a2⟩ | ⟨a1, a2, a3, a4⟩
    all_goals
     go_wp2_with (fail)
     refine (HT.out _).mono ?_
     rintro e w2 ⟨rfl, hb⟩
     have HO := Lib.hid ((HF.out.own.next hb).set (.int .i64 q') (.int .i64 p))
     have HP := Lib.hid ((HF.out.res.next hb).put2 (c := w.heap.size) (by omega) (.int .i64 q') (.int .i64 p))
     have HB := Lib.hid (below_put2 (HF.out.below.trans (hb.mono HF.out.below.size)) (c := w.heap.size) (Nat.le_refl _) (.int .i64 q') (.int .i64 p))
     obtain ⟨d0, d1, h0, h1⟩ := HF.out.own.next hb
     have hz := (HF.out.own.next hb).lt
     clear hb c0 c1 f0 f1 e0 e1 g0 g1
     go_wp2_with (fail)
     go_roundw
     case rel => exact ⟨q', p, HR.out, HS.out, HO.out, HP.out, HB.out⟩
     case measure =>
      rw [HM1.out, HM2.out, cellInt_of HO.out.c0, cellInt_of HO.out.c1]
      exact HL.out
theorem not_zero {u v : Int} (h : (⟨u, v⟩ : Pt) ≠ Pt.zero) : (u == 0) = false ∨ ((u == 0) = true ∧ (v == 0) = false) := by
 by_cases hu : u = 0
 · exact .inr ⟨beq_iff_eq.2 hu, beq_eq_false_iff_ne.2 fun hv => h (Pt.ext hu hv)⟩
 · exact .inl (beq_eq_false_iff_ne.2 hu)
theorem common_bad (x y u v : Int) (h : (rb ⟨x, y⟩ && rb ⟨u, v⟩) = false) (w : World) : Calls Try.prog 89 #[.agg #[.int .i64 x, .int .i64 y], .agg #[.int .i64 u, .int .i64 v]] w (Gives (.tuple #[.agg #[.int .i64 0, .int .i64 0], .int .i64 14]) w) := by
 have HR := Lib.hid (both_any x y u v); rw [h] at HR; clear h
 go_enter Try.func89, Try.ntmps89
 go_wp2_with (fail)
 refine wp_scope_once 0 (fun _ _ => False) (fun _ _ => 0) rfl (fun NX => ?_) (fun _ _ h => h.elim)
 clear NX
 go_wp2_with (fail)
 refine (HR.out _).mono ?_
 rintro e w1 ⟨rfl, hb⟩
 obtain ⟨h2, d2, d3, d4⟩ := boxes3 45 (.int .i64 x) (.int .i64 y) (.int .i64 u) (.int .i64 v) (.int .i64 0) (.int .i64 0) w
 have HB := Lib.hid (Below.next h2 hb)
 have hz := (d4.next hb).lt
 obtain ⟨e0, e1, g0, g1⟩ := d4.next hb
 clear hb h2 d2 d3 d4
 go_wp2_with (fail)
 simp only [Exit.jump]
 refine bodyPost_ret (v := .tuple #[.agg #[.int .i64 0, .int .i64 0], .int .i64 14]) (by simp [results, Try.results89, go_sem, e0, e1]) rfl ⟨rfl, ?_⟩
 exact below_put2 HB.out (c := w.heap.size + 1 + 1) (by omega) _ _
def JG (x y u v : Int) (w : World) (a' : Act) (w' : World) : Prop := ∃ (p q r s : Int) (u6 u7 u8 u9 u10 u11 u12 u13 u14 u15 u16 u17 u18 u19 u20 u21 u22 u23 u24 u25 : Value),
 rb ⟨p, q⟩ = true ∧ rb ⟨r, s⟩ = true ∧ Pt.cg ⟨p, q⟩ ⟨r, s⟩ = Pt.cg ⟨x, y⟩ ⟨u, v⟩ ∧ Duo w' w.heap.size (.int .i64 p) (.int .i64 q) ∧ Duo w' (w.heap.size + 1) (.int .i64 r) (.int .i64 s) ∧ Duo w' (w.heap.size + 1 + 1) (.int .i64 0) (.int .i64 0) ∧ Below w.heap.size w w' ∧
 a' = { tmps := #[.agg #[.int .i64 x, .int .i64 y], .agg #[.int .i64 u, .int .i64 v], .pointer (some ⟨w.heap.size, 0, none⟩), .pointer (some ⟨w.heap.size + 1, 0, none⟩), .pointer (some ⟨w.heap.size + 1 + 1, 0, none⟩), .int .i64 0, u6, u7, u8, u9, u10, u11, u12, u13, u14, u15, u16, u17, u18, u19, u20, u21, u22, u23, u24, u25], defers := [] }
def muG (w : World) (_ : Act) (w' : World) : Nat := (Pt.norm ⟨cellInt w' (w.heap.size + 1) 0, cellInt w' (w.heap.size + 1) 1⟩).toNat
set_option maxRecDepth 100000 in
set_option maxHeartbeats 2000000 in
theorem common_yes {x y u v : Int} (ha : rb ⟨x, y⟩ = true) (hb : rb ⟨u, v⟩ = true) (w : World) : Calls Try.prog 89 #[.agg #[.int .i64 x, .int .i64 y], .agg #[.int .i64 u, .int .i64 v]] w
 (Gives (.tuple #[.agg #[.int .i64 (Pt.cg ⟨x, y⟩ ⟨u, v⟩).x, .int .i64 (Pt.cg ⟨x, y⟩ ⟨u, v⟩).y], .int .i64 0]) w) := by
 have HR := Lib.hid (both_any x y u v); rw [ha, hb] at HR
 have HA := Lib.hid ha; have HH := Lib.hid hb; clear ha hb
 go_enter Try.func89, Try.ntmps89
 go_wp2_with (fail)
 refine wp_scope_once 0 (JG x y u v w) (muG w) rfl (fun NX => ?_) ?_
 · go_wp2_with (fail)
   refine (HR.out _).mono ?_
   rintro e w1 ⟨rfl, hb⟩
   obtain ⟨h2, d2, d3, d4⟩ := boxes3 45 (.int .i64 x) (.int .i64 y) (.int .i64 u) (.int .i64 v) (.int .i64 0) (.int .i64 0) w
   have HB := Lib.hid (Below.next h2 hb)
   have D2 := Lib.hid (d2.next hb); have D3 := Lib.hid (d3.next hb); have D4 := Lib.hid (d4.next hb)
   clear hb h2 d2 d3 d4
   go_wp2_with (fail)
   go_step3
   rename_i hK
   exact hK _ _ (NX.out _ _ ⟨x, y, u, v, _, _, _, _, _, _, _, _, _, _, _, _, _, _, _, _, _, _, _, _, HA.out, HH.out, rfl, D2.out, D3.out, D4.out, HB.out, rfl⟩)
 · rintro a' w' ⟨p, q, r, s, u6, u7, u8, u9, u10, u11, u12, u13, u14, u15, u16, u17, u18, u19, u20, u21, u22, u23, u24, u25, ha, hb, hg, d2, d3, d4, hbl, rfl⟩
   have HP := Lib.hid ha; have HQ := Lib.hid hb; have HG := Lib.hid hg; have D2 := Lib.hid d2; have D3 := Lib.hid d3; have D4 := Lib.hid d4; have HB := Lib.hid hbl
   obtain ⟨a0, a1, f2, f3⟩ := d2
   obtain ⟨b0, b1, f4, f5⟩ := d3
   have HM : Hid (muG w { tmps := #[.agg #[.int .i64 x, .int .i64 y], .agg #[.int .i64 u, .int .i64 v], .pointer (some ⟨w.heap.size, 0, none⟩), .pointer (some ⟨w.heap.size + 1, 0, none⟩), .pointer (some ⟨w.heap.size + 1 + 1, 0, none⟩), .int .i64 0, u6, u7, u8, u9, u10, u11, u12, u13, u14, u15, u16, u17, u18, u19, u20, u21, u22, u23, u24, u25], defers := [] } w' = (Pt.norm ⟨r, s⟩).toNat) := by
    show muG _ _ _ = _
    unfold muG; rw [cellInt_of b0, cellInt_of b1]
   clear ha hb hg d4 hbl
   by_cases h0 : (⟨r, s⟩ : Pt) = Pt.zero
   · have HC : Hid (Pt.cg ⟨x, y⟩ ⟨u, v⟩ = Pt.fs ⟨p, q⟩) := by
      show _ = _
      rw [← HG.out, h0, Pt.cg_zero]
     have hr : (r == 0) = true := by injection h0 with h1 h2; exact beq_iff_eq.2 h1
     have hs : (s == 0) = true := by injection h0 with h1 h2; exact beq_iff_eq.2 h2
     clear h0
     rw [HC.out]
     have HF := Lib.hid (first_any HP.out)
     generalize (Pt.fs ⟨p, q⟩).x = fx at *
     generalize (Pt.fs ⟨p, q⟩).y = fy at *
     go_wp2_with (fail)
     refine (HF.out _).mono ?_
     rintro e w2 ⟨rfl, hb⟩
     have HB2 := Lib.hid (HB.out.trans (hb.mono HB.out.size))
     have hz := (D4.out.next hb).lt
     obtain ⟨e0, e1, g0, g1⟩ := D4.out.next hb
     clear hb a0 a1 b0 b1
     go_wp2_with (fail)
     simp only [Exit.jump]
     refine bodyPost_ret (v := .tuple #[.agg #[.int .i64 fx, .int .i64 fy], .int .i64 0]) (by simp [results, Try.results89, go_sem, e0, e1]) rfl ⟨rfl, ?_⟩
     exact below_put2 HB2.out (c := w.heap.size + 1 + 1) (by omega) _ _
   · have HC : Hid (Pt.cg ⟨r, s⟩ (Pt.rest ⟨p, q⟩ ⟨r, s⟩) = Pt.cg ⟨x, y⟩ ⟨u, v⟩) := by
      show _ = _
      rw [← HG.out, Pt.cg_rest _ h0]
     have HL := Lib.hid (Pt.rest_lt ⟨p, q⟩ h0)
     have HN := Lib.hid (Pt.rest_right (a := ⟨p, q⟩) HQ.out h0)
     have HD := Lib.hid (divide_any HP.out HQ.out h0)
     have hne := not_zero h0
     clear h0
     obtain ⟨t, ht⟩ : ∃ t, Pt.rest ⟨p, q⟩ ⟨r, s⟩ = t := ⟨_, rfl⟩
     rw [ht] at HC HL HN HD
     obtain ⟨tx, ty⟩ := t
     have HD2 : Hid (∀ w, Calls Try.prog 97 #[.agg #[.int .i64 p, .int .i64 q], .agg #[.int .i64 r, .int .i64 s]] w
      (Gives (.tuple #[.agg #[.int .i64 (Pt.quo ⟨p, q⟩ ⟨r, s⟩).x, .int .i64 (Pt.quo ⟨p, q⟩ ⟨r, s⟩).y], .agg #[.int .i64 tx, .int .i64 ty]]) w)) := HD
     clear HD ht
     generalize (Pt.quo ⟨p, q⟩ ⟨r, s⟩).x = qx at *
     generalize (Pt.quo ⟨p, q⟩ ⟨r, s⟩).y = qy at *
     rcases hne with hr | ⟨hr, hs⟩
     all_goals
      go_wp2_with (fail)
      refine (HD2.out _).mono ?_
      rintro e w2 ⟨rfl, hb⟩
      obtain ⟨k2, o6, o7⟩ := boxes2 45 (.int .i64 qx) (.int .i64 qy) (.int .i64 tx) (.int .i64 ty) w2
      have HB2 := Lib.hid ((HB.out.trans (hb.mono HB.out.size)).trans (k2.mono (HB.out.trans (hb.mono HB.out.size)).size))
      have F2 := Lib.hid ((D2.out.next hb).next k2)
      have F3 := Lib.hid ((D3.out.next hb).next k2)
      have F4 := Lib.hid ((D4.out.next hb).next k2)
      have O7 := Lib.hid o7
      have hg : w.heap.size + 1 + 1 < w2.heap.size := (D4.out.next hb).lt
      clear hb a0 a1 b0 b1 f2 f3 f4 f5 k2 o6 o7
      go_wp2_with (fail)
      generalize (w2.alloc (.cells #[.int .i64 qx, .int .i64 qy] 45)).alloc (.cells #[.int .i64 tx, .int .i64 ty] 45) = w3 at *
      have n1 : ¬ w.heap.size = w2.heap.size + 1 := by omega
      have n2 : ¬ w.heap.size + 1 = w2.heap.size + 1 := by omega
      have n3 : ¬ w2.heap.size + 1 = w.heap.size := by omega
      have n4 : ¬ w2.heap.size + 1 = w.heap.size + 1 := by omega
      clear hg
      generalize w2.heap.size + 1 = g at *
      obtain ⟨a0, a1, _, _⟩ := O7.out
      obtain ⟨b0, b1, g0, g1⟩ := F2.out
      obtain ⟨c0, c1, i0, i1⟩ := F3.out
      have hz := F4.out.lt
      have HX := Lib.hid (((F2.out.set (.int .i64 r) (.int .i64 s)).put2 (c := w.heap.size + 1) (by omega) (.int .i64 tx) (.int .i64 ty)).drew)
      have HY := Lib.hid (((F3.out.put2 (c := w.heap.size) (by omega) (.int .i64 r) (.int .i64 s)).set (.int .i64 tx) (.int .i64 ty)).drew)
      have HZ := Lib.hid (((F4.out.put2 (c := w.heap.size) (by omega) (.int .i64 r) (.int .i64 s)).put2 (c := w.heap.size + 1) (by omega) (.int .i64 tx) (.int .i64 ty)).drew)
      have HW := Lib.hid (below_put2 (below_put2 HB2.out (c := w.heap.size) (by omega) (.int .i64 r) (.int .i64 s)) (c := w.heap.size + 1) (by omega) (.int .i64 tx) (.int .i64 ty)).drew
      go_region
      go_wp2_with (fail)
      go_step3
      refine ⟨rfl, ⟨r, s, tx, ty, _, _, _, _, _, _, _, _, _, _, _, _, _, _, _, _, _, _, _, _, HQ.out, HN.out, HC.out, HX.out, HY.out, HZ.out, HW.out, rfl⟩, ?_⟩
      refine Nat.lt_of_lt_of_eq ?_ HM.out.symm
      unfold muG
      rw [cellInt_of HY.out.c0, cellInt_of HY.out.c1]
      exact HL.out
end Go.Proofs.Ytkbhnphkopgccaa.Ga
namespace Go.Proofs.Ytkbhnphkopgccaa.Va
open Go.ChangeShapes Go.WideShapes Go.ChangeAt Go.RowKit Ov Tp
section
variable {H : Type} {enc : TypeId × Value → H} {w : World} {base : Nat} {spare : Nat → Bool} {held : Bool}
end
end Go.Proofs.Ytkbhnphkopgccaa.Va

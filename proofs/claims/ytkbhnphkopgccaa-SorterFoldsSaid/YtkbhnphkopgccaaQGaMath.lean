/-
  A text of this claim: GaMath.
-/
import Derived.Test.YtkbhnphkopgccaaRows
import Derived.Lib.Hide
namespace Go.Proofs.Ytkbhnphkopgccaa.Ga
def fb (n : Int) : Bool := decide (-16777216 ≤ n ∧ n ≤ 16777216)
theorem fb_yes {n : Int} (h : fb n = true) : -16777216 ≤ n ∧ n ≤ 16777216 := of_decide_eq_true h
theorem fb_of {n : Int} (h1 : -16777216 ≤ n) (h2 : n ≤ 16777216) : fb n = true := decide_eq_true ⟨h1, h2⟩
structure Pt where
 x : Int
 y : Int
 deriving DecidableEq
theorem Pt.ext {a b : Pt} (h1 : a.x = b.x) (h2 : a.y = b.y) : a = b := by cases a; cases b; simp_all
def rb (a : Pt) : Bool := fb a.x && fb a.y
theorem rb_yes {a : Pt} (h : rb a = true) : (-16777216 ≤ a.x ∧ a.x ≤ 16777216) ∧ (-16777216 ≤ a.y ∧ a.y ≤ 16777216) := by
 unfold rb at h; rw [Bool.and_eq_true] at h; exact ⟨fb_yes h.1, fb_yes h.2⟩
theorem rb_of {a : Pt} (h : (-16777216 ≤ a.x ∧ a.x ≤ 16777216) ∧ (-16777216 ≤ a.y ∧ a.y ≤ 16777216)) : rb a = true := by
 unfold rb; rw [Bool.and_eq_true]; exact ⟨fb_of h.1.1 h.1.2, fb_of h.2.1 h.2.2⟩
theorem rb_xy {x y : Int} (h : rb ⟨x, y⟩ = true) : (-16777216 ≤ x ∧ x ≤ 16777216) ∧ (-16777216 ≤ y ∧ y ≤ 16777216) := rb_yes h
def near (n d : Int) : Int := (2 * n + d) / (2 * d)
theorem near_spec (n d : Int) (h : 0 < d) : -d ≤ 2 * (n - near n d * d) ∧ 2 * (n - near n d * d) < d := by
 unfold near
 have h1 := Int.emod_add_mul_ediv (2 * n + d) (2 * d)
 have h2 := Int.emod_nonneg (2 * n + d) (show 2 * d ≠ 0 by omega)
 have h3 := Int.emod_lt_of_pos (2 * n + d) (show 0 < 2 * d by omega)
 generalize (2 * n + d) / (2 * d) = q at *
 generalize (2 * n + d) % (2 * d) = r at *
 have e : 2 * d * q = 2 * (q * d) := by grind
 rw [e] at h1
 generalize q * d = p at *
 omega
theorem near_le {n d M : Int} (h : 0 < d) (h1 : -(M * d) ≤ n) (h2 : n ≤ M * d) : -M ≤ near n d ∧ near n d ≤ M := by
 obtain ⟨g1, g2⟩ := near_spec n d h
 generalize near n d = q at *
 refine ⟨?_, ?_⟩
 · rcases Int.lt_or_le q (-M) with hq | hq
   · have : (q + 1) * d ≤ -M * d := Int.mul_le_mul_of_nonneg_right (by omega) (by omega)
     rw [Int.add_mul, Int.neg_mul] at this
     generalize q * d = p at *; generalize M * d = m at *; omega
   · exact hq
 · rcases Int.lt_or_le M q with hq | hq
   · have : (M + 1) * d ≤ q * d := Int.mul_le_mul_of_nonneg_right (by omega) (by omega)
     rw [Int.add_mul] at this
     generalize q * d = p at *; generalize M * d = m at *; omega
   · exact hq
theorem sq_nonneg (a : Int) : 0 ≤ a * a := by
 rcases Int.le_total 0 a with h | h
 · exact Int.mul_nonneg h h
 · exact Int.mul_nonneg_of_nonpos_of_nonpos h h
theorem sq_le {a b : Int} (hb : 0 ≤ b) (h : a * a ≤ b * b) : -b ≤ a ∧ a ≤ b := by
 refine ⟨?_, ?_⟩
 · rcases Int.lt_or_le a (-b) with hq | hq
   · have : (b + 1) * (b + 1) ≤ (-a) * (-a) := Int.mul_le_mul (by omega) (by omega) (by omega) (by omega)
     have e1 : (b + 1) * (b + 1) = b * b + 2 * b + 1 := by grind
     have e2 : (-a) * (-a) = a * a := by grind
     rw [e1, e2] at this; omega
   · exact hq
 · rcases Int.lt_or_le b a with hq | hq
   · have : (b + 1) * (b + 1) ≤ a * a := Int.mul_le_mul (by omega) (by omega) (by omega) (by omega)
     have e1 : (b + 1) * (b + 1) = b * b + 2 * b + 1 := by grind
     rw [e1] at this; omega
   · exact hq
theorem le_sq {a b : Int} (h1 : -b ≤ a) (h2 : a ≤ b) : a * a ≤ b * b := by
 rcases Int.le_total 0 a with h | h
 · exact Int.mul_le_mul h2 h2 h (by omega)
 · have : (-a) * (-a) ≤ b * b := Int.mul_le_mul (by omega) (by omega) (by omega) (by omega)
   rwa [Int.neg_mul_neg] at this
theorem mul_big {a b : Int} (ha : -16777216 ≤ a ∧ a ≤ 16777216) (hb : -16777216 ≤ b ∧ b ≤ 16777216) : -281474976710656 ≤ a * b ∧ a * b ≤ 281474976710656 := by
 have h : (a * b) * (a * b) ≤ 281474976710656 * 281474976710656 := by
  have h1 := le_sq ha.1 ha.2
  have h2 := le_sq hb.1 hb.2
  rw [show (a * b) * (a * b) = (a * a) * (b * b) by grind]
  exact Int.mul_le_mul h1 h2 (sq_nonneg b) (by omega)
 exact sq_le (by omega) h
namespace Pt
def zero : Pt := ⟨0, 0⟩
def one : Pt := ⟨1, 0⟩
def add (a b : Pt) : Pt := ⟨a.x + b.x, a.y + b.y⟩
def sub (a b : Pt) : Pt := ⟨a.x - b.x, a.y - b.y⟩
def mul (a b : Pt) : Pt := ⟨a.x * b.x - a.y * b.y, a.x * b.y + a.y * b.x⟩
def conj (a : Pt) : Pt := ⟨a.x, -a.y⟩
def norm (a : Pt) : Int := a.x * a.x + a.y * a.y
def turn (a : Pt) : Pt := ⟨-a.y, a.x⟩
def quo (a b : Pt) : Pt := ⟨near (a.mul b.conj).x b.norm, near (a.mul b.conj).y b.norm⟩
def rest (a b : Pt) : Pt := a.sub ((a.quo b).mul b)
def turns : Nat → Pt → Pt
 | 0, a => a
 | k + 1, a => (turns k a).turn
theorem norm_nonneg (a : Pt) : 0 ≤ a.norm := by
 have := sq_nonneg a.x; have := sq_nonneg a.y; unfold norm; omega
theorem norm_pos {a : Pt} (h : a ≠ zero) : 0 < a.norm := by
 have h1 := sq_nonneg a.x; have h2 := sq_nonneg a.y
 unfold norm
 by_cases hx : a.x = 0
 · have hy : a.y ≠ 0 := fun hy => h (Pt.ext hx hy)
   have : a.y * a.y ≠ 0 := Int.mul_ne_zero hy hy
   omega
 · have : a.x * a.x ≠ 0 := Int.mul_ne_zero hx hx
   omega
theorem mul_norm (a b : Pt) : (a.mul b).norm = a.norm * b.norm := by unfold mul norm; grind
theorem mul_comm (a b : Pt) : a.mul b = b.mul a := Pt.ext (by unfold mul; grind) (by unfold mul; grind)
theorem mul_assoc (a b c : Pt) : (a.mul b).mul c = a.mul (b.mul c) := Pt.ext (by unfold mul; grind) (by unfold mul; grind)
theorem add_mul (a b c : Pt) : (a.add b).mul c = (a.mul c).add (b.mul c) := Pt.ext (by unfold mul add; grind) (by unfold mul add; grind)
theorem sub_mul (a b c : Pt) : (a.sub b).mul c = (a.mul c).sub (b.mul c) := Pt.ext (by unfold mul sub; grind) (by unfold mul sub; grind)
theorem one_mul (a : Pt) : one.mul a = a := Pt.ext (by unfold mul one; simp) (by unfold mul one; simp)
theorem mul_zero (a : Pt) : a.mul zero = zero := Pt.ext (by unfold mul zero; simp) (by unfold mul zero; simp)
theorem quo_mul_rest (a b : Pt) : ((a.quo b).mul b).add (a.rest b) = a := Pt.ext (by unfold rest add sub; simp; omega) (by unfold rest add sub; simp; omega)
theorem rest_norm (a : Pt) {b : Pt} (h : b ≠ zero) : 2 * (a.rest b).norm ≤ b.norm := by
 have hp := norm_pos h
 have e1 : ((a.rest b).mul b.conj).x = (a.mul b.conj).x - (a.quo b).x * b.norm := by unfold rest sub mul conj norm; grind
 have e2 : ((a.rest b).mul b.conj).y = (a.mul b.conj).y - (a.quo b).y * b.norm := by unfold rest sub mul conj norm; grind
 have e3 : ((a.rest b).mul b.conj).norm = (a.rest b).norm * b.norm := by rw [mul_norm]; congr 1; unfold conj norm; grind
 obtain ⟨l1, u1⟩ := near_spec (a.mul b.conj).x b.norm hp
 obtain ⟨l2, u2⟩ := near_spec (a.mul b.conj).y b.norm hp
 have f1 : (a.quo b).x = near (a.mul b.conj).x b.norm := rfl
 have f2 : (a.quo b).y = near (a.mul b.conj).y b.norm := rfl
 rw [← f1, ← e1] at l1 u1
 rw [← f2, ← e2] at l2 u2
 unfold norm at e3
 have s1 := le_sq (a := 2 * ((a.rest b).mul b.conj).x) (b := b.norm) (by omega) (by omega)
 have s2 := le_sq (a := 2 * ((a.rest b).mul b.conj).y) (b := b.norm) (by omega) (by omega)
 generalize ((a.rest b).mul b.conj).x = u at *
 generalize ((a.rest b).mul b.conj).y = v at *
 have e4 : u * u + v * v = (a.rest b).norm * b.norm := e3
 generalize (a.rest b).norm = r at *
 generalize b.norm = n at *
 rcases Int.lt_or_le n (2 * r) with hh | hh
 · have h5 : (n + 1) * n ≤ 2 * r * n := Int.mul_le_mul_of_nonneg_right (by omega) (by omega)
   have t1 : 2 * u * (2 * u) = 4 * (u * u) := by grind
   have t2 : 2 * v * (2 * v) = 4 * (v * v) := by grind
   have t3 : (n + 1) * n = n * n + n := by grind
   have t4 : 2 * r * n = 2 * (r * n) := by grind
   rw [t1] at s1; rw [t2] at s2; rw [t3, t4] at h5
   generalize u * u = uu at *; generalize v * v = vv at *; generalize r * n = rn at *; generalize n * n = nn at *
   omega
 · exact hh
def Dv (b a : Pt) : Prop := ∃ q : Pt, a = q.mul b
theorem Dv.trans {a b c : Pt} (h : Dv a b) (g : Dv b c) : Dv a c := by
 obtain ⟨p, rfl⟩ := h; obtain ⟨q, rfl⟩ := g; exact ⟨q.mul p, (mul_assoc _ _ _).symm⟩
theorem Dv.refl (a : Pt) : Dv a a := ⟨one, (one_mul a).symm⟩
theorem Dv.zero (a : Pt) : Dv a Pt.zero := ⟨Pt.zero, by rw [mul_comm, mul_zero]⟩
theorem Dv.add {a b c : Pt} (h : Dv a b) (g : Dv a c) : Dv a (b.add c) := by
 obtain ⟨p, rfl⟩ := h; obtain ⟨q, rfl⟩ := g; exact ⟨p.add q, (add_mul _ _ _).symm⟩
theorem Dv.sub {a b c : Pt} (h : Dv a b) (g : Dv a c) : Dv a (b.sub c) := by
 obtain ⟨p, rfl⟩ := h; obtain ⟨q, rfl⟩ := g; exact ⟨p.sub q, (sub_mul _ _ _).symm⟩
theorem Dv.mul {a b : Pt} (h : Dv a b) (c : Pt) : Dv a (c.mul b) := by
 obtain ⟨p, rfl⟩ := h; exact ⟨c.mul p, (mul_assoc _ _ _).symm⟩
theorem Dv.of_zero {a : Pt} (h : Dv Pt.zero a) : a = Pt.zero := by obtain ⟨q, rfl⟩ := h; exact mul_zero q
theorem turn_mul (a : Pt) : a.turn = a.mul ⟨0, 1⟩ := Pt.ext (by unfold turn mul; simp) (by unfold turn mul; simp)
theorem turn4 (a : Pt) : a.turn.turn.turn.turn = a := Pt.ext (by unfold turn; simp) (by unfold turn; simp)
theorem turn_right {a : Pt} (h : rb a = true) : rb a.turn = true := by
 obtain ⟨h1, h2⟩ := rb_yes h
 exact rb_of ⟨⟨by show _ ≤ -a.y; omega, by show -a.y ≤ _; omega⟩, h1⟩
theorem turns_right (k : Nat) {a : Pt} (h : rb a = true) : rb (turns k a) = true := by
 induction k with
 | zero => exact h
 | succ k ih => exact turn_right ih
theorem dv_turn (a : Pt) : Dv a a.turn := ⟨⟨0, 1⟩, by rw [turn_mul, mul_comm]⟩
theorem turn_dv (a : Pt) : Dv a.turn a := by
 have h : Dv a.turn a.turn.turn.turn.turn := (dv_turn _).trans ((dv_turn _).trans (dv_turn _))
 rwa [turn4] at h
def fs (a : Pt) : Pt :=
 if 0 < a.x ∧ 0 ≤ a.y then a else if a.y < 0 ∧ 0 ≤ a.x then turns 1 a else if a.x < 0 ∧ a.y ≤ 0 then turns 2 a else if 0 < a.y ∧ a.x ≤ 0 then turns 3 a else a
theorem fs_turns (a : Pt) : ∃ k, fs a = turns k a := by
 unfold fs
 repeat' split
 · exact ⟨0, rfl⟩
 · exact ⟨1, rfl⟩
 · exact ⟨2, rfl⟩
 · exact ⟨3, rfl⟩
 · exact ⟨0, rfl⟩
theorem fs_first (a : Pt) : (0 < (fs a).x ∧ 0 ≤ (fs a).y) ∨ (fs a = zero ∧ a = zero) := by
 unfold fs
 split
 · exact .inl ‹_›
 · split
   · refine .inl ?_; show 0 < -a.y ∧ 0 ≤ a.x; omega
   · split
     · refine .inl ?_; show 0 < - a.x ∧ 0 ≤ -a.y; omega
     · split
       · refine .inl ?_; show 0 < - -a.y ∧ 0 ≤ -a.x; omega
       · exact .inr ⟨Pt.ext (by show _ = (0 : Int); omega) (by show _ = (0 : Int); omega), Pt.ext (by show _ = (0 : Int); omega) (by show _ = (0 : Int); omega)⟩
theorem dv_turns (k : Nat) (a : Pt) : Dv a (turns k a) ∧ Dv (turns k a) a := by
 induction k with
 | zero => exact ⟨Dv.refl a, Dv.refl a⟩
 | succ k ih => exact ⟨ih.1.trans (dv_turn _), (turn_dv _).trans ih.2⟩
theorem fs_dv (a : Pt) : Dv a (fs a) ∧ Dv (fs a) a := by
 obtain ⟨k, hk⟩ := fs_turns a; rw [hk]; exact dv_turns k a
theorem fs_right {a : Pt} (h : rb a = true) : rb (fs a) = true := by
 obtain ⟨k, hk⟩ := fs_turns a; rw [hk]; exact turns_right k h
theorem fs_done {a : Pt} (h : (0 < a.x ∧ 0 ≤ a.y) ∨ a = zero) : fs a = a := by
 unfold fs
 rcases h with h | h
 · rw [if_pos h]
 · subst h; rfl
theorem fs_turn {a : Pt} (h : ¬ (0 < a.x ∧ 0 ≤ a.y)) (h0 : a ≠ zero) : fs a.turn = fs a := by
 have hz : ¬ (a.x = 0 ∧ a.y = 0) := fun ⟨hx, hy⟩ => h0 (Pt.ext hx hy)
 unfold fs
 have t1 : turns 1 a = a.turn := rfl
 have t2 : turns 2 a = turns 1 a.turn := rfl
 have t3 : turns 3 a = turns 2 a.turn := rfl
 have tx : a.turn.x = -a.y := rfl
 have ty : a.turn.y = a.x := rfl
 rw [tx, ty, if_neg h]
 by_cases c1 : a.y < 0 ∧ 0 ≤ a.x
 · rw [if_pos (show 0 < -a.y ∧ 0 ≤ a.x by omega), if_pos c1, t1]
 · rw [if_neg c1, if_neg (show ¬ (0 < -a.y ∧ 0 ≤ a.x) by omega)]
   by_cases c2 : a.x < 0 ∧ a.y ≤ 0
   · rw [if_pos c2, if_pos (show a.x < 0 ∧ 0 ≤ -a.y by omega), t2]
   · rw [if_neg c2, if_neg (show ¬ (a.x < 0 ∧ 0 ≤ -a.y) by omega), if_pos (show 0 < a.y ∧ a.x ≤ 0 by omega), if_pos (show -a.y < 0 ∧ a.x ≤ 0 by omega), t3]
theorem rest_lt (a : Pt) {b : Pt} (h : b ≠ zero) : (a.rest b).norm.toNat < b.norm.toNat := by
 have h1 := rest_norm a h; have h2 := norm_nonneg (a.rest b); have h3 := norm_pos h; omega
def cg (a b : Pt) : Pt := if _h : b = zero then fs a else cg b (a.rest b)
termination_by b.norm.toNat
decreasing_by exact rest_lt a _h
theorem cg_zero (a : Pt) : cg a zero = fs a := by rw [cg, dif_pos rfl]
theorem cg_rest (a : Pt) {b : Pt} (h : b ≠ zero) : cg a b = cg b (a.rest b) := by rw [cg, dif_neg h]
theorem cg_spec (n : Nat) : ∀ a b : Pt, b.norm.toNat < n → (Dv (cg a b) a ∧ Dv (cg a b) b) ∧ (∀ d, Dv d a → Dv d b → Dv d (cg a b)) ∧ ((0 < (cg a b).x ∧ 0 ≤ (cg a b).y) ∨ cg a b = zero) := by
 induction n with
 | zero => intro a b h; omega
 | succ n ih =>
   intro a b h
   by_cases hb : b = zero
   · subst hb
     rw [cg_zero]
     refine ⟨⟨(fs_dv a).2, Dv.zero _⟩, fun d h1 _ => h1.trans (fs_dv a).1, ?_⟩
     rcases fs_first a with h | h
     · exact .inl h
     · exact .inr h.1
   · rw [cg_rest a hb]
     have hlt := rest_lt a hb
     obtain ⟨⟨h1, h2⟩, h3, h4⟩ := ih b (a.rest b) (by omega)
     refine ⟨⟨?_, h1⟩, fun d g1 g2 => h3 d g2 (g1.sub (g2.mul _)), h4⟩
     have := (h1.mul (a.quo b)).add h2
     rwa [quo_mul_rest] at this
theorem norm_le {a : Pt} (h : rb a = true) : a.norm ≤ 562949953421312 := by
 obtain ⟨h1, h2⟩ := rb_yes h
 have s1 := le_sq h1.1 h1.2
 have s2 := le_sq h2.1 h2.2
 unfold norm; omega
theorem right_of_norm {a : Pt} (h : a.norm ≤ 281474976710656) : rb a = true := by
 have s1 := sq_nonneg a.x; have s2 := sq_nonneg a.y
 unfold norm at h
 exact rb_of ⟨sq_le (by omega) (by omega), sq_le (by omega) (by omega)⟩
theorem rest_right {a b : Pt} (hb : rb b = true) (h : b ≠ zero) : rb (a.rest b) = true := by
 have h1 := rest_norm a h; have h2 := norm_le hb
 exact right_of_norm (by omega)
theorem part_le {z N n : Int} (hn : 1 ≤ n) (hz : z * z ≤ N * n) (hN : N ≤ 562949953421312) (h1 : n = 1 → z * z ≤ 281474976710656) : -(16777216 * n) ≤ z ∧ z ≤ 16777216 * n := by
 refine sq_le (by omega) ?_
 by_cases h : n = 1
 · have := h1 h; subst h; omega
 · have t1 : N * n ≤ 562949953421312 * n := Int.mul_le_mul_of_nonneg_right hN (by omega)
   have t2 : 2 * n ≤ n * n := Int.mul_le_mul_of_nonneg_right (by omega) (by omega)
   have t3 : 16777216 * n * (16777216 * n) = 281474976710656 * (n * n) := by grind
   rw [t3]; generalize n * n = nn at *; omega
theorem unit_cases {b : Pt} (h : b.norm = 1) : (b.x * b.x = 1 ∧ b.y = 0) ∨ (b.x = 0 ∧ b.y * b.y = 1) := by
 have s1 := sq_nonneg b.x; have s2 := sq_nonneg b.y
 unfold norm at h
 by_cases hx : b.x = 0
 · exact .inr ⟨hx, by rw [hx] at h; omega⟩
 · have hx2 : b.x * b.x ≠ 0 := Int.mul_ne_zero hx hx
   have hy : b.y = 0 := by
    refine Decidable.byContradiction fun hy => ?_
    have hy2 : b.y * b.y ≠ 0 := Int.mul_ne_zero hy hy
    omega
   exact .inl ⟨by rw [hy] at h; omega, hy⟩
theorem quo_right {a b : Pt} (ha : rb a = true) (h : b ≠ zero) : rb (a.quo b) = true := by
 have hp := norm_pos h
 have hN := norm_le ha
 obtain ⟨hx, hy⟩ := rb_yes ha
 have sx := le_sq hx.1 hx.2
 have sy := le_sq hy.1 hy.2
 have e : (a.mul b.conj).norm = a.norm * b.norm := by rw [mul_norm]; congr 1; unfold conj norm; grind
 have s1 := sq_nonneg (a.mul b.conj).x
 have s2 := sq_nonneg (a.mul b.conj).y
 have e' : (a.mul b.conj).x * (a.mul b.conj).x + (a.mul b.conj).y * (a.mul b.conj).y = a.norm * b.norm := e
 have hu : b.norm = 1 → (a.mul b.conj).x * (a.mul b.conj).x ≤ 281474976710656 ∧ (a.mul b.conj).y * (a.mul b.conj).y ≤ 281474976710656 := by
  intro h1
  have zx : (a.mul b.conj).x = a.x * b.x + a.y * b.y := by unfold mul conj; grind
  have zy : (a.mul b.conj).y = a.y * b.x - a.x * b.y := by unfold mul conj; grind
  rcases unit_cases h1 with ⟨u1, u2⟩ | ⟨u1, u2⟩
  · have t1 : (a.mul b.conj).x * (a.mul b.conj).x = a.x * a.x := by rw [zx, u2]; grind
    have t2 : (a.mul b.conj).y * (a.mul b.conj).y = a.y * a.y := by rw [zy, u2]; grind
    rw [t1, t2]; omega
  · have t1 : (a.mul b.conj).x * (a.mul b.conj).x = a.y * a.y := by rw [zx, u1]; grind
    have t2 : (a.mul b.conj).y * (a.mul b.conj).y = a.x * a.x := by rw [zy, u1]; grind
    rw [t1, t2]; omega
 obtain ⟨p1, p2⟩ := part_le (z := (a.mul b.conj).x) (N := a.norm) (n := b.norm) (by omega) (by omega) hN (fun h1 => (hu h1).1)
 obtain ⟨q1, q2⟩ := part_le (z := (a.mul b.conj).y) (N := a.norm) (n := b.norm) (by omega) (by omega) hN (fun h1 => (hu h1).2)
 exact rb_of ⟨near_le hp p1 p2, near_le hp q1 q2⟩
theorem cg_right (n : Nat) : ∀ a b : Pt, b.norm.toNat < n → rb a = true → rb b = true → rb (cg a b) = true := by
 induction n with
 | zero => intro a b h; omega
 | succ n ih =>
   intro a b h ha hb
   by_cases h0 : b = zero
   · subst h0; rw [cg_zero]; exact fs_right ha
   · rw [cg_rest a h0]
     have hlt := rest_lt a h0
     exact ih b _ (by omega) hb (rest_right hb h0)
end Pt
end Go.Proofs.Ytkbhnphkopgccaa.Ga

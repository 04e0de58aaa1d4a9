/-
  Jobs, in plain mathematics: folds of values.
-/
import Derived.Test.YtimllihegnokeaaVaMath
import Derived.Test.YtimllihegnokeaaGaMath
namespace Go.Proofs.Ytimllihegnokeaa.Jo
open Go.Proofs.Ytimllihegnokeaa.Ov Go.Proofs.Ytimllihegnokeaa.Ga Go.Proofs.Ytimllihegnokeaa.Va

def wSum : List UInt8 := [115, 117, 109]
def wMax : List UInt8 := [109, 97, 120]
def wMin : List UInt8 := [109, 105, 110]
def wGcd : List UInt8 := [103, 99, 100]
/-- Is a word one of a fold? -/
def isF (w : List UInt8) : Bool := decide (w = wSum ∨ w = wMax ∨ w = wMin ∨ w = wGcd)
/-- A number, round a ring. -/
def rg (n b : Int) : Int := (n + b) % (2 * b) - b
def vz0 : Va := ⟨0, 0, [], 0, 0⟩
def pp (v : Va) : Pt := ⟨v.x, v.y⟩
def vp (p : Pt) : Va := ⟨2, 0, [], p.x, p.y⟩
def vn (n : Int) : Va := ⟨0, n, [], 0, 0⟩
/-- May values of this kind be folded so? -/
def okk (w : List UInt8) (k : Int) : Bool := decide (w = wMax ∨ w = wMin ∨ k = 0 ∨ k = 2)
/-- The fold of two values of one kind. -/
def opf (w : List UInt8) (a b : Va) : Va :=
  if w = wMax ∨ w = wMin then (if decide (ord a b < 0) = decide (w = wMax) then b else a)
  else if a.k = 0 then vn (if w = wSum then rg (a.n + b.n) 9007199254740992 else (Int.gcd a.n b.n : Int))
  else vp (if w = wSum then ⟨rg (a.x + b.x) 16777216, rg (a.y + b.y) 16777216⟩ else Pt.cg (pp a) (pp b))
/-- A fold of two values; the error. -/
def fo (w : List UInt8) (a b : Va) : Va × Int :=
  if isF w = true ∧ rt a = true ∧ rt b = true then
    if a.k = b.k ∧ okk w a.k = true then (opf w a b, 0) else (vz0, 13)
  else (vz0, 1)

/-! ### Points: the common divisor is one, whatever the order -/
theorem cg_first (a b : Pt) : (0 < (Pt.cg a b).x ∧ 0 ≤ (Pt.cg a b).y) ∨ Pt.cg a b = Pt.zero := (Pt.cg_spec _ a b (Nat.lt_succ_self _)).2.2
theorem cg_dv (a b : Pt) : Pt.Dv (Pt.cg a b) a ∧ Pt.Dv (Pt.cg a b) b := (Pt.cg_spec _ a b (Nat.lt_succ_self _)).1
theorem cg_most (a b : Pt) {d : Pt} (h1 : Pt.Dv d a) (h2 : Pt.Dv d b) : Pt.Dv d (Pt.cg a b) := (Pt.cg_spec _ a b (Nat.lt_succ_self _)).2.1 d h1 h2
theorem sq_one {a : Int} (h : a * a = 1) : a = 1 ∨ a = -1 := by
  have h1 := sq_le (a := a) (b := 1) (by decide) (by omega)
  have h2 : a ≠ 0 := fun e => by subst e; simp at h
  omega
/-- Points in the first quarter that divide each other are one. -/
theorem one_of_dv {a b : Pt} (ha : (0 < a.x ∧ 0 ≤ a.y) ∨ a = Pt.zero) (hb : (0 < b.x ∧ 0 ≤ b.y) ∨ b = Pt.zero) (h1 : Pt.Dv a b) (h2 : Pt.Dv b a) : a = b := by
  by_cases hz : b = Pt.zero
  · subst hz; exact Pt.Dv.of_zero h2
  have hza : a ≠ Pt.zero := fun h => hz (by subst h; exact Pt.Dv.of_zero h1)
  have ha' := ha.resolve_right hza
  have hb' := hb.resolve_right hz
  obtain ⟨q, hq⟩ := h1
  obtain ⟨r, hr⟩ := h2
  have hn : a.norm = (r.norm * q.norm) * a.norm := by
    have : a = (r.mul q).mul a := by rw [Pt.mul_assoc, ← hq, ← hr]
    rw [← Pt.mul_norm, ← Pt.mul_norm, ← this]
  have hp := Pt.norm_pos hza
  have h1 : r.norm * q.norm = 1 := by
    have h := Int.eq_of_mul_eq_mul_right (by omega : a.norm ≠ 0) (show r.norm * q.norm * a.norm = 1 * a.norm by rw [← hn, Int.one_mul])
    exact h
  have h2 := Pt.norm_nonneg q
  have hq1 : q.norm = 1 := Int.eq_one_of_mul_eq_one_right h2 (by rw [Int.mul_comm]; exact h1)
  have ex : b.x = q.x * a.x - q.y * a.y := congrArg Pt.x hq
  have ey : b.y = q.x * a.y + q.y * a.x := congrArg Pt.y hq
  rcases Pt.unit_cases hq1 with ⟨hx, hy⟩ | ⟨hx, hy⟩
  · have : q.x = 1 ∨ q.x = -1 := sq_one hx
    rcases this with h | h
    · exact Pt.ext (by rw [ex, h, hy]; omega) (by rw [ey, h, hy]; omega)
    · exfalso; rw [h, hy] at ex; omega
  · have : q.y = 1 ∨ q.y = -1 := sq_one hy
    rcases this with h | h
    · exfalso; rw [h, hx] at ex; omega
    · exfalso; rw [h, hx] at ey; omega
theorem cg_comm (a b : Pt) : Pt.cg a b = Pt.cg b a :=
  one_of_dv (cg_first a b) (cg_first b a) (cg_most b a (cg_dv a b).2 (cg_dv a b).1) (cg_most a b (cg_dv b a).2 (cg_dv b a).1)
theorem cg_assoc (a b c : Pt) : Pt.cg (Pt.cg a b) c = Pt.cg a (Pt.cg b c) :=
  one_of_dv (cg_first _ _) (cg_first _ _)
    (cg_most _ _ ((cg_dv _ c).1.trans (cg_dv a b).1) (cg_most _ _ ((cg_dv _ c).1.trans (cg_dv a b).2) (cg_dv _ c).2))
    (cg_most _ _ (cg_most _ _ (cg_dv a _).1 ((cg_dv a _).2.trans (cg_dv b c).1)) ((cg_dv a _).2.trans (cg_dv b c).2))

/-! ### Rings -/
theorem rgN (a b c : Int) : rg (rg (a + b) 9007199254740992 + c) 9007199254740992 = rg (a + rg (b + c) 9007199254740992) 9007199254740992 := by unfold rg; omega
theorem rgP (a b c : Int) : rg (rg (a + b) 16777216 + c) 16777216 = rg (a + rg (b + c) 16777216) 16777216 := by unfold rg; omega
theorem rgN_in (n : Int) : -9007199254740992 ≤ rg n 9007199254740992 ∧ rg n 9007199254740992 ≤ 9007199254740991 := by unfold rg; omega
theorem rgP_in (n : Int) : -16777216 ≤ rg n 16777216 ∧ rg n 16777216 ≤ 16777215 := by unfold rg; omega

/-! ### Folds -/
theorem rt_vn {n : Int} (h : -9007199254740992 ≤ n ∧ n ≤ 9007199254740992) : rt (vn n) = true := decide_eq_true (.inl ⟨rfl, h.1, h.2, rfl, rfl, rfl⟩)
theorem rt_vp {p : Pt} (h : rb p = true) : rt (vp p) = true := decide_eq_true (.inr (.inr ⟨rfl, rfl, rfl, h⟩))
theorem rt_k0 {v : Va} (h : rt v = true) (hk : v.k = 0) : (-9007199254740992 ≤ v.n ∧ v.n ≤ 9007199254740992) ∧ v = vn v.n := by
  obtain ⟨k, n, s, x, y⟩ := v
  rcases rt_yes h with ⟨h0, h1, h2, h3, h4, h5⟩ | ⟨h0, _⟩ | ⟨h0, _⟩
  · simp only at h0 h1 h2 h3 h4 h5 ⊢; subst h0 h3 h4 h5; exact ⟨⟨h1, h2⟩, rfl⟩
  · simp only at h0 hk; omega
  · simp only at h0 hk; omega
theorem rt_k2 {v : Va} (h : rt v = true) (hk : v.k = 2) : rb (pp v) = true ∧ v = vp (pp v) := by
  obtain ⟨k, n, s, x, y⟩ := v
  rcases rt_yes h with ⟨h0, _⟩ | ⟨h0, _⟩ | ⟨h0, h1, h2, h3⟩
  · simp only at h0 hk; omega
  · simp only at h0 hk; omega
  · simp only at h0 h1 h2 h3 ⊢; subst h0 h1 h2; exact ⟨h3, rfl⟩
theorem gcd_in {a b : Int} (ha : -9007199254740992 ≤ a ∧ a ≤ 9007199254740992) (hb : -9007199254740992 ≤ b ∧ b ≤ 9007199254740992) : -9007199254740992 ≤ (Int.gcd a b : Int) ∧ (Int.gcd a b : Int) ≤ 9007199254740992 := by
  by_cases h : a = 0
  · subst h; rw [Int.gcd_zero_left]; omega
  · have := Int.gcd_le_natAbs_left b h; omega
theorem opf_right (w : List UInt8) {a b : Va} (ha : rt a = true) (hb : rt b = true) (hk : a.k = b.k) (ho : okk w a.k = true) : rt (opf w a b) = true ∧ (opf w a b).k = a.k := by
  unfold opf
  by_cases h1 : w = wMax ∨ w = wMin
  · rw [if_pos h1]; split
    · exact ⟨hb, hk.symm⟩
    · exact ⟨ha, rfl⟩
  rw [if_neg h1]
  by_cases h2 : a.k = 0
  · rw [if_pos h2]
    obtain ⟨ga, _⟩ := rt_k0 ha h2
    obtain ⟨gb, _⟩ := rt_k0 hb (by omega)
    refine ⟨rt_vn ?_, h2.symm⟩
    split
    · have := rgN_in (a.n + b.n); omega
    · exact gcd_in ga gb
  · rw [if_neg h2]
    have h3 : a.k = 2 := by
      rcases of_decide_eq_true ho with h | h | h | h
      · exact absurd (.inl h) h1
      · exact absurd (.inr h) h1
      · exact absurd h h2
      · exact h
    obtain ⟨ga, _⟩ := rt_k2 ha h3
    obtain ⟨gb, _⟩ := rt_k2 hb (by omega)
    refine ⟨rt_vp ?_, h3.symm⟩
    split
    · have h4 := rgP_in (a.x + b.x); have h5 := rgP_in (a.y + b.y)
      exact rb_of ⟨⟨h4.1, by show _ ≤ _; simp only; omega⟩, ⟨h5.1, by show _ ≤ _; simp only; omega⟩⟩
    · exact Pt.cg_right _ _ _ (Nat.lt_succ_self _) ga gb
/-- The later one, the earlier one: one, whatever the order. -/
theorem mx_comm (a b : Va) : (if decide (ord a b < 0) = true then b else a) = if decide (ord b a < 0) = true then a else b := by
  have h := ord_neg a b
  have hz := (ord_zero a b).1
  by_cases h1 : ord a b < 0
  · rw [if_pos (decide_eq_true h1), if_neg (by rw [decide_eq_true_iff]; omega)]
  · rw [if_neg (by rw [decide_eq_true_iff]; exact h1)]
    by_cases h2 : ord b a < 0
    · rw [if_pos (decide_eq_true h2)]
    · rw [if_neg (by rw [decide_eq_true_iff]; exact h2)]; exact hz (by omega)
theorem mi_comm (a b : Va) : (if decide (ord a b < 0) = false then b else a) = if decide (ord b a < 0) = false then a else b := by
  have h := ord_neg a b
  have hz := (ord_zero a b).1
  by_cases h1 : ord a b < 0
  · rw [if_neg (by rw [decide_eq_true h1]; decide), if_pos (by rw [decide_eq_false_iff_not]; omega)]
  · rw [if_pos (by rw [decide_eq_false_iff_not]; exact h1)]
    by_cases h2 : ord b a < 0
    · rw [if_neg (by rw [decide_eq_true h2]; decide)]
    · rw [if_pos (by rw [decide_eq_false_iff_not]; exact h2)]; exact (hz (by omega)).symm
theorem opf_comm (w : List UInt8) (a b : Va) (hk : a.k = b.k) : opf w a b = opf w b a := by
  unfold opf
  by_cases h1 : w = wMax ∨ w = wMin
  · rw [if_pos h1, if_pos h1]
    by_cases h2 : w = wMax
    · rw [decide_eq_true h2]; exact mx_comm a b
    · rw [decide_eq_false h2]; exact mi_comm a b
  rw [if_neg h1, if_neg h1, ← hk, Int.add_comm b.n, Int.add_comm b.x, Int.add_comm b.y, Int.gcd_comm b.n, cg_comm (pp b)]
theorem mx_assoc (f : Va → Va → Prop) [∀ a b, Decidable (f a b)] (ht : ∀ a b c, ¬ f a b → ¬ f b c → ¬ f a c) (hs : ∀ a b c, f a b → f b c → f a c) (a b c : Va) :
    (if f (if f a b then b else a) c then c else (if f a b then b else a)) = if f a (if f b c then c else b) then (if f b c then c else b) else a := by
  by_cases h1 : f a b <;> by_cases h2 : f b c
  · simp [h1, h2, hs a b c h1 h2]
  · simp [h1, h2]
  · simp [h1, h2]
  · simp [h1, h2, ht a b c h1 h2]
theorem ord_lt {a b c : Va} (h1 : ord a b < 0) (h2 : ord b c < 0) : ord a c < 0 := by
  have h3 := ord_trans a b c (by omega) (by omega)
  have h4 : ord a c ≠ 0 := fun h => by
    have := (ord_zero a c).1 h; subst this
    have := ord_neg a b; omega
  omega
theorem ord_ge {a b c : Va} (h1 : ¬ ord a b < 0) (h2 : ¬ ord b c < 0) : ¬ ord a c < 0 := by
  have e1 := ord_neg a b; have e2 := ord_neg b c; have e3 := ord_neg a c
  have := ord_trans c b a (by omega) (by omega)
  omega
theorem opf_assoc (w : List UInt8) {a b c : Va} (ha : rt a = true) (hb : rt b = true) (hc : rt c = true) (h1 : a.k = b.k) (h2 : b.k = c.k) (ho : okk w a.k = true) : opf w (opf w a b) c = opf w a (opf w b c) := by
  by_cases h3 : w = wMax ∨ w = wMin
  · have e : ∀ p q, opf w p q = if decide (ord p q < 0) = decide (w = wMax) then q else p := fun p q => if_pos h3
    rw [e a b, e b c, e, e]
    refine mx_assoc (fun p q => decide (ord p q < 0) = decide (w = wMax)) ?_ ?_ a b c
    · intro p q r g1 g2
      by_cases h4 : w = wMax
      · rw [decide_eq_true h4] at *; simp only [decide_eq_true_eq] at *; exact ord_ge g1 g2
      · rw [decide_eq_false h4] at *; simp only [decide_eq_false_iff_not, Decidable.not_not] at *; exact ord_lt g1 g2
    · intro p q r g1 g2
      by_cases h4 : w = wMax
      · rw [decide_eq_true h4] at *; simp only [decide_eq_true_eq] at *; exact ord_lt g1 g2
      · rw [decide_eq_false h4] at *; simp only [decide_eq_false_iff_not] at *; exact ord_ge g1 g2
  · have k1 := (opf_right w ha hb h1 ho).2
    have k2 := (opf_right w hb hc h2 (by rw [← h1]; exact ho)).2
    by_cases h4 : a.k = 0
    · have e : ∀ p q : Va, p.k = 0 → opf w p q = vn (if w = wSum then rg (p.n + q.n) 9007199254740992 else (Int.gcd p.n q.n : Int)) := fun p q h => by unfold opf; rw [if_neg h3, if_pos h]
      rw [e _ c (by omega), e a b h4, e a _ h4, e b c (by omega)]
      congr 1
      by_cases h5 : w = wSum
      · rw [if_pos h5, if_pos h5, if_pos h5, if_pos h5]; exact rgN _ _ _
      · rw [if_neg h5, if_neg h5, if_neg h5, if_neg h5]
        show (Int.gcd (Int.gcd a.n b.n : Int) c.n : Int) = (Int.gcd a.n (Int.gcd b.n c.n : Int) : Int)
        rw [Int.gcd_assoc]
    · have e : ∀ p q : Va, ¬ p.k = 0 → opf w p q = vp (if w = wSum then ⟨rg (p.x + q.x) 16777216, rg (p.y + q.y) 16777216⟩ else Pt.cg (pp p) (pp q)) := fun p q h => by unfold opf; rw [if_neg h3, if_neg h]
      rw [e _ c (by omega), e a b h4, e a _ h4, e b c (by omega)]
      congr 1
      by_cases h5 : w = wSum
      · rw [if_pos h5, if_pos h5, if_pos h5, if_pos h5]; exact Pt.ext (rgP _ _ _) (rgP _ _ _)
      · rw [if_neg h5, if_neg h5, if_neg h5, if_neg h5]; exact cg_assoc _ _ _
theorem fo_yes {w : List UInt8} {a b : Va} (h : isF w = true ∧ rt a = true ∧ rt b = true) : fo w a b = if a.k = b.k ∧ okk w a.k = true then (opf w a b, 0) else (vz0, 13) := if_pos h
theorem fo_no {w : List UInt8} {a b : Va} (h : ¬ (isF w = true ∧ rt a = true ∧ rt b = true)) : fo w a b = (vz0, 1) := if_neg h
theorem fo_comm (w : List UInt8) (a b : Va) : fo w a b = fo w b a := by
  by_cases h : isF w = true ∧ rt a = true ∧ rt b = true
  · rw [fo_yes h, fo_yes ⟨h.1, h.2.2, h.2.1⟩]
    by_cases h2 : a.k = b.k
    · rw [opf_comm w a b h2, h2]
    · rw [if_neg (fun e => h2 e.1), if_neg (fun e => h2 e.1.symm)]
  · rw [fo_no h, fo_no (fun e => h ⟨e.1, e.2.2, e.2.1⟩)]
theorem fo_err (w : List UInt8) (a b : Va) : (fo w a b).2 = 0 ∨ (fo w a b).2 = 13 ∨ (fo w a b).2 = 1 := by
  unfold fo; split
  · split
    · exact .inl rfl
    · exact .inr (.inl rfl)
  · exact .inr (.inr rfl)
/-- A fold, then another one; the first one's error. -/
def fo2 (x : Va × Int) (f : Va → Va × Int) : Va × Int := if x.2 = 0 then f x.1 else x
theorem fo_assoc (w : List UInt8) (a b c : Va) (h1 : (fo w a b).2 ≠ 1) (h2 : (fo w b c).2 ≠ 1) :
    (fo2 (fo w a b) fun v => fo w v c).2 = (fo2 (fo w b c) fun v => fo w a v).2 ∧ ((fo2 (fo w a b) fun v => fo w v c).2 = 0 → (fo2 (fo w a b) fun v => fo w v c).1 = (fo2 (fo w b c) fun v => fo w a v).1) := by
  have g1 : isF w = true ∧ rt a = true ∧ rt b = true := by
    refine Decidable.byContradiction fun h => h1 ?_
    unfold fo; rw [if_neg h]
  have g2 : isF w = true ∧ rt b = true ∧ rt c = true := by
    refine Decidable.byContradiction fun h => h2 ?_
    unfold fo; rw [if_neg h]
  have e : ∀ {p q : Va}, rt p = true → rt q = true → fo w p q = if p.k = q.k ∧ okk w p.k = true then (opf w p q, 0) else (vz0, 13) := fun hp hq => if_pos ⟨g1.1, hp, hq⟩
  by_cases h3 : a.k = b.k ∧ okk w a.k = true
  · obtain ⟨r1, k1⟩ := opf_right w g1.2.1 g1.2.2 h3.1 h3.2
    have e1 : fo w a b = (opf w a b, 0) := by rw [e g1.2.1 g1.2.2, if_pos h3]
    by_cases h4 : b.k = c.k
    · obtain ⟨r2, k2⟩ := opf_right w g1.2.2 g2.2.2 h4 (by rw [← h3.1]; exact h3.2)
      have e2 : fo w b c = (opf w b c, 0) := by rw [e g1.2.2 g2.2.2, if_pos ⟨h4, by rw [← h3.1]; exact h3.2⟩]
      rw [e1, e2]
      show (fo w (opf w a b) c).2 = (fo w a (opf w b c)).2 ∧ ((fo w (opf w a b) c).2 = 0 → (fo w (opf w a b) c).1 = (fo w a (opf w b c)).1)
      rw [e r1 g2.2.2, e g1.2.1 r2, if_pos ⟨by omega, by rw [k1]; exact h3.2⟩, if_pos ⟨by omega, h3.2⟩]
      exact ⟨rfl, fun _ => opf_assoc w g1.2.1 g1.2.2 g2.2.2 h3.1 h4 h3.2⟩
    · have e2 : fo w b c = (vz0, 13) := by rw [e g1.2.2 g2.2.2, if_neg fun h => h4 h.1]
      rw [e1, e2]
      show (fo w (opf w a b) c).2 = 13 ∧ ((fo w (opf w a b) c).2 = 0 → (fo w (opf w a b) c).1 = vz0)
      rw [e r1 g2.2.2, if_neg fun h => h4 (by omega)]
      exact ⟨rfl, fun h => absurd h (by decide)⟩
  · have e1 : fo w a b = (vz0, 13) := by rw [e g1.2.1 g1.2.2, if_neg h3]
    rw [e1]
    show 13 = (fo2 (fo w b c) fun v => fo w a v).2 ∧ ((13 : Int) = 0 → _)
    refine ⟨?_, fun h => absurd h (by decide)⟩
    by_cases h4 : b.k = c.k ∧ okk w b.k = true
    · obtain ⟨r2, k2⟩ := opf_right w g1.2.2 g2.2.2 h4.1 h4.2
      rw [e g1.2.2 g2.2.2, if_pos h4]
      show 13 = (fo w a (opf w b c)).2
      rw [e g1.2.1 r2, if_neg fun h => h3 ⟨by omega, h.2⟩]
    · rw [e g1.2.2 g2.2.2, if_neg h4]; rfl
end Go.Proofs.Ytimllihegnokeaa.Jo

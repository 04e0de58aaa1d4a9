/-
  Folds of three values: the walks.
-/
import Derived.Test.YtimllihegnokeaaJoFoldt
import Derived.Deep.Cut
namespace Go.Proofs.Ytimllihegnokeaa.Jo
open Go.ChangeShapes Go.WideShapes Go.ChangeAt Go.RowKit Go.Proofs.Ytimllihegnokeaa.Ov Go.Proofs.Ytimllihegnokeaa.Ga Go.Proofs.Ytimllihegnokeaa.Va

theorem word_any (q : Int) : ∃ c : ByteArray, ([.string ⟨#[115, 117, 109]⟩, .string ⟨#[109, 97, 120]⟩, .string ⟨#[109, 105, 110]⟩, .string ⟨#[103, 99, 100]⟩] : List Value)[(q % 4).toNat]? = some (.string c) := by
  have h : (q % 4).toNat = 0 ∨ (q % 4).toNat = 1 ∨ (q % 4).toNat = 2 ∨ (q % 4).toNat = 3 := by omega
  rcases h with h | h | h | h <;> rw [h] <;> exact ⟨_, rfl⟩
/-- The fold of two values, in letters. -/
theorem fold_va (c : ByteArray) (a b r : Va) (e : Int) (h : fo c.data.toList a b = (r, e)) : Hid (∀ w, Calls Try.prog 5 #[.string c, .agg #[.int .i64 a.k, .int .i64 a.n, .string (tx a.s), .int .i64 a.x, .int .i64 a.y], .agg #[.int .i64 b.k, .int .i64 b.n, .string (tx b.s), .int .i64 b.x, .int .i64 b.y]] w
    (Gives (.tuple #[.agg #[.int .i64 r.k, .int .i64 r.n, .string (tx r.s), .int .i64 r.x, .int .i64 r.y], .int .i64 e]) w)) := fun w => by
  have g := fold_any c a.k a.n a.x a.y b.k b.n b.x b.y (tx a.s) (tx b.s) w
  rw [tx_list, tx_list] at g
  change Calls _ _ _ _ (Gives (.tuple #[.agg #[.int .i64 (fo c.data.toList a b).1.k, .int .i64 (fo c.data.toList a b).1.n, .string (tx (fo c.data.toList a b).1.s), .int .i64 (fo c.data.toList a b).1.x, .int .i64 (fo c.data.toList a b).1.y], .int .i64 (fo c.data.toList a b).2]) w) at g
  rw [h] at g
  exact g
theorem folds_core (q : Int) (hq : 0 ≤ q ∧ q < 256) (a b d : Va) (w : World) : Calls Try.prog 3 #[.int .u8 q, .agg #[.int .i64 a.k, .int .i64 a.n, .string (tx a.s), .int .i64 a.x, .int .i64 a.y], .agg #[.int .i64 b.k, .int .i64 b.n, .string (tx b.s), .int .i64 b.x, .int .i64 b.y], .agg #[.int .i64 d.k, .int .i64 d.n, .string (tx d.s), .int .i64 d.x, .int .i64 d.y]] w (Gives (.bool true) w) := by
  obtain ⟨c, hc⟩ := word_any q
  obtain ⟨⟨p, e1⟩, h1⟩ : ∃ r, fo c.data.toList a b = r := ⟨_, rfl⟩
  obtain ⟨⟨r, e2⟩, h2⟩ : ∃ r, fo c.data.toList b d = r := ⟨_, rfl⟩
  obtain ⟨⟨s, e3⟩, h3⟩ : ∃ r, fo c.data.toList p d = r := ⟨_, rfl⟩
  obtain ⟨⟨t, e4⟩, h4⟩ : ∃ z, fo c.data.toList a r = z := ⟨_, rfl⟩
  have h1' : fo c.data.toList b a = (p, e1) := by rw [fo_comm]; exact h1
  have F1 := fold_va c a b p e1 h1
  have F2 := fold_va c b a p e1 h1'
  have F3 := fold_va c b d r e2 h2
  have F4 := fold_va c p d s e3 h3
  have F5 := fold_va c a r t e4 h4
  have g1 := fo_err c.data.toList a b
  have g2 := fo_err c.data.toList b d
  have g3 := fo_err c.data.toList p d
  have ha := fo_assoc c.data.toList a b d
  rw [h1, h2] at ha
  rw [h1] at g1; rw [h2] at g2; rw [h3] at g3
  simp only [fo2] at ha g1 g2 g3
  rcases g1 with g1 | g1 | g1 <;> rcases g2 with g2 | g2 | g2 <;> subst g1 <;> subst g2
  · have k := ha (by decide) (by decide)
    rw [if_pos rfl, if_pos rfl, h3, h4] at k
    simp only at k
    obtain ⟨k1, k2⟩ := k
    subst k1
    rcases g3 with g3 | g3 | g3 <;> subst g3
    · have := k2 rfl; subst this
      exact folds_0_0_0 q hq c hc _ _ _ _ _ _ _ _ _ _ _ _ _ _ _ _ _ _ _ _ _ _ _ _ _ _ _ _ _ _ w F1 F2 F3 F4 F5
    · exact folds_0_0_13 q hq c hc _ _ _ _ _ _ _ _ _ _ _ _ _ _ _ _ _ _ _ _ _ _ _ _ _ _ _ _ _ _ _ _ _ _ _ w F1 F2 F3 F4 F5
    · exact folds_0_0_1 q hq c hc _ _ _ _ _ _ _ _ _ _ _ _ _ _ _ _ _ _ _ _ _ _ _ _ _ _ _ _ _ _ _ _ _ _ _ w F1 F2 F3 F4 F5
  · have k := ha (by decide) (by decide)
    rw [if_pos rfl, if_neg (by decide), h3] at k
    obtain ⟨k1, _⟩ := k
    simp only at k1
    subst k1
    exact folds_0_13_13 q hq c hc _ _ _ _ _ _ _ _ _ _ _ _ _ _ _ _ _ _ _ _ _ _ _ _ _ _ _ _ _ _ w F1 F2 F3 F4
  · exact folds_0_1_n q hq c hc _ _ _ _ _ _ _ _ _ _ _ _ _ _ _ _ _ _ _ _ _ _ _ _ _ _ _ _ _ _ _ w F1 F2 F3 F4
  · have k := ha (by decide) (by decide)
    rw [if_neg (by decide), if_pos rfl, h4] at k
    obtain ⟨k1, _⟩ := k
    simp only at k1
    subst k1
    exact folds_13_0_13 q hq c hc _ _ _ _ _ _ _ _ _ _ _ _ _ _ _ _ _ _ _ _ _ _ _ _ _ _ _ _ _ _ w F1 F2 F3 F5
  · exact folds_13_13 q hq c hc _ _ _ _ _ _ _ _ _ _ _ _ _ _ _ _ _ _ _ _ _ _ _ _ _ w F1 F2 F3
  · exact folds_13_1 q hq c hc _ _ _ _ _ _ _ _ _ _ _ _ _ _ _ _ _ _ _ _ _ _ _ _ _ w F1 F2 F3
  · exact folds_1_0_n q hq c hc _ _ _ _ _ _ _ _ _ _ _ _ _ _ _ _ _ _ _ _ _ _ _ _ _ _ _ _ _ _ _ w F1 F2 F3 F5
  · exact folds_1_13 q hq c hc _ _ _ _ _ _ _ _ _ _ _ _ _ _ _ _ _ _ _ _ _ _ _ _ _ w F1 F2 F3
  · exact folds_1_1 q hq c hc _ _ _ _ _ _ _ _ _ _ _ _ _ _ _ _ _ _ _ _ _ _ _ _ _ w F1 F2 F3
end Go.Proofs.Ytimllihegnokeaa.Jo

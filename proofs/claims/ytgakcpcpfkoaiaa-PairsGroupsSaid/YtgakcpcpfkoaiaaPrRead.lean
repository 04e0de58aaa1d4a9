/-
  Lists of pairs as bytes, plain: laid, and read.
-/
import Derived.Test.YtgakcpcpfkoaiaaPrMath
import Derived.Test.YtgakcpcpfkoaiaaTpCut
import Derived.Test.YtgakcpcpfkoaiaaVaRd
namespace Go.Proofs.Ytgakcpcpfkoaiaa.Pr
open Go.Proofs.Ytgakcpcpfkoaiaa.Ov Go.Proofs.Ytgakcpcpfkoaiaa.Tp Go.Proofs.Ytgakcpcpfkoaiaa.Va

/-- A pair's bytes; a list's; is a pair right, are all? -/
def bs1 (p : Pr) : List UInt8 := (nb p.1.length ++ p.1) ++ vb p.2
def lbs (l : List Pr) : List UInt8 := l.flatMap bs1
def lb (l : List Pr) : List UInt8 := nb l.length ++ lbs l
def rp (p : Pr) : Bool := decide (p.1.length ≤ 64) && rt p.2
def rl (l : List Pr) : Bool := l.all rp
theorem rp_iff (p : Pr) : rp p = true ↔ p.1.length ≤ 64 ∧ rt p.2 = true := by unfold rp; simp
theorem rl_iff (l : List Pr) : rl l = true ↔ ∀ p ∈ l, rp p = true := by unfold rl; simp
/-- The pair that bytes begin with: it, an error, what is behind. -/
def rdp (l : List UInt8) : Pr × Nat × List UInt8 :=
  if (cc 64 l).2.2 ≠ 0 then (pz, (cc 64 l).2.2, l)
  else if (cc 64 l).2.1.length < (cc 64 l).1 then (pz, 2, l)
  else (((cc 64 l).2.1.take (cc 64 l).1, (rd ((cc 64 l).2.1.drop (cc 64 l).1)).1), (rd ((cc 64 l).2.1.drop (cc 64 l).1)).2.1, (rd ((cc 64 l).2.1.drop (cc 64 l).1)).2.2)
/-- So many pairs, behind those that were read already. -/
def rdl (acc : List Pr) : Nat → List UInt8 → List Pr × Nat × List UInt8
  | 0, l => (acc, 0, l)
  | k + 1, l => if (rdp l).2.1 ≠ 0 then ([], (rdp l).2.1, l) else rdl (acc ++ [(rdp l).1]) k (rdp l).2.2
/-- What Read answers. -/
def prd (s : List UInt8) : List Pr × Nat :=
  if (cc s.length s).2.2 ≠ 0 then ([], (cc s.length s).2.2)
  else if (rdl [] (cc s.length s).1 (cc s.length s).2.1).2.1 ≠ 0 then ([], (rdl [] (cc s.length s).1 (cc s.length s).2.1).2.1)
  else if (rdl [] (cc s.length s).1 (cc s.length s).2.1).2.2 ≠ [] then ([], 6)
  else ((rdl [] (cc s.length s).1 (cc s.length s).2.1).1, 0)
theorem cc_own {most : Int} {l t : List UInt8} {n : Nat} (h : cc most l = (n, t, 0)) : l = nb n ++ t ∧ (n : Int) ≤ most := by
  rcases cn_cases l with ⟨n', t', h1, _, _⟩ | ⟨k, h1, h2, _⟩
  · by_cases hm : most < (n' : Int)
    · rw [cc_large h1 hm] at h; simp at h
    · rw [cc_ok h1 hm] at h
      simp only [Prod.mk.injEq, and_true] at h
      obtain ⟨rfl, rfl⟩ := h
      exact ⟨cn_own h1, by omega⟩
  · rw [cc_no most h1 h2] at h
    simp at h; omega
theorem cc_nb (x : Nat) (t : List UInt8) (most : Int) (h : x ≤ 9007199254740991) (hm : (x : Int) ≤ most) : cc most (nb x ++ t) = (x, t, 0) := cc_ok (cn_laid x t h) (by omega)
theorem rdp_bs1 {p : Pr} (h : rp p = true) (t : List UInt8) : rdp (bs1 p ++ t) = (p, 0, t) := by
  obtain ⟨h1, h2⟩ := (rp_iff p).1 h
  have e : bs1 p ++ t = nb p.1.length ++ (p.1 ++ (vb p.2 ++ t)) := by unfold bs1; simp
  have hc := cc_nb p.1.length (p.1 ++ (vb p.2 ++ t)) 64 (by omega) (by omega)
  unfold rdp
  rw [e, hc]
  dsimp only
  rw [if_neg (by simp), if_neg (by simp), List.take_left, List.drop_left, rd_vb h2]
theorem rdp_ok {l t : List UInt8} {p : Pr} (h : rdp l = (p, 0, t)) : rp p = true ∧ l = bs1 p ++ t := by
  unfold rdp at h
  by_cases h1 : (cc 64 l).2.2 ≠ 0
  · rw [if_pos h1] at h; simp at h; exact absurd h.2.1 h1
  · rw [if_neg h1] at h
    by_cases h2 : (cc 64 l).2.1.length < (cc 64 l).1
    · rw [if_pos h2] at h; simp at h
    · rw [if_neg h2] at h
      have hc : cc 64 l = ((cc 64 l).1, (cc 64 l).2.1, 0) := by
        have : (cc 64 l).2.2 = 0 := by omega
        rw [← this]
      obtain ⟨e1, e2⟩ := cc_own hc
      generalize (cc 64 l).1 = n at *
      generalize (cc 64 l).2.1 = u at *
      simp only [Prod.mk.injEq] at h
      obtain ⟨e3, e4, e5⟩ := h
      have hr : rd (u.drop n) = (p.2, 0, t) := by rw [← e3, ← e4, ← e5]
      obtain ⟨g1, g2⟩ := rd_ok hr
      have hk : p.1 = u.take n := by rw [← e3]
      have hl : p.1.length = n := by rw [hk, List.length_take]; omega
      refine ⟨(rp_iff p).2 ⟨by omega, g1⟩, ?_⟩
      unfold bs1
      rw [e1, hl, hk, List.append_assoc, List.append_assoc, ← g2, List.take_append_drop]
theorem rdl_lbs (l : List Pr) (h : ∀ p ∈ l, rp p = true) (acc : List Pr) (t : List UInt8) : rdl acc l.length (lbs l ++ t) = (acc ++ l, 0, t) := by
  induction l generalizing acc with
  | nil => simp [rdl, lbs]
  | cons p q ih =>
    have e : lbs (p :: q) ++ t = bs1 p ++ (lbs q ++ t) := by unfold lbs; simp
    rw [e, List.length_cons, rdl, rdp_bs1 (h p (by simp))]
    dsimp only
    rw [if_neg (by simp), ih (fun x hx => h x (by simp [hx]))]
    simp
theorem rdl_ok (k : Nat) (l : List UInt8) (acc ps : List Pr) (t : List UInt8) (h : rdl acc k l = (ps, 0, t)) : ∃ q, ps = acc ++ q ∧ q.length = k ∧ (∀ p ∈ q, rp p = true) ∧ l = lbs q ++ t := by
  induction k generalizing l acc with
  | zero =>
    simp only [rdl, Prod.mk.injEq] at h
    exact ⟨[], by simp [h.1], rfl, by simp, by simp [lbs, h.2.2]⟩
  | succ k ih =>
    rw [rdl] at h
    by_cases h1 : (rdp l).2.1 ≠ 0
    · rw [if_pos h1] at h; simp at h; exact absurd h.2.1 h1
    · rw [if_neg h1] at h
      have hc : rdp l = ((rdp l).1, 0, (rdp l).2.2) := by
        have : (rdp l).2.1 = 0 := by omega
        rw [← this]
      obtain ⟨g1, g2⟩ := rdp_ok hc
      obtain ⟨q, e1, e2, e3, e4⟩ := ih _ _ h
      refine ⟨(rdp l).1 :: q, by rw [e1]; simp, by simp [e2], fun p hp => ?_, ?_⟩
      · rcases List.mem_cons.1 hp with rfl | hp
        · exact g1
        · exact e3 p hp
      · conv => lhs; rw [g2, e4]
        unfold lbs; simp
theorem nb_pos (n : Nat) : 0 < (nb n).length := List.length_pos_iff.2 (nb_ne n)
theorem lbs_len (l : List Pr) : l.length ≤ (lbs l).length := by
  induction l with
  | nil => simp
  | cons p t ih =>
    have e : lbs (p :: t) = bs1 p ++ lbs t := rfl
    have h1 : 0 < (bs1 p).length := by unfold bs1; rw [List.length_append, List.length_append]; have := nb_pos p.1.length; omega
    rw [e, List.length_append, List.length_cons]; omega
theorem prd_lb {l : List Pr} (h : rl l = true) (hn : l.length ≤ 9007199254740991) : prd (lb l) = (l, 0) := by
  have hc := cc_nb l.length (lbs l) (lb l).length hn (by unfold lb; rw [List.length_append]; have := lbs_len l; omega)
  have hr := rdl_lbs l ((rl_iff l).1 h) [] []
  rw [List.append_nil, List.nil_append] at hr
  unfold prd
  rw [show lb l = nb l.length ++ lbs l from rfl] at hc ⊢
  rw [hc]
  dsimp only
  rw [hr, if_neg (by simp), if_neg (by simp), if_neg (by simp)]
theorem prd_ok {s : List UInt8} {l : List Pr} (h : prd s = (l, 0)) : rl l = true ∧ lb l = s ∧ l.length ≤ s.length := by
  unfold prd at h
  by_cases h1 : (cc s.length s).2.2 ≠ 0
  · rw [if_pos h1] at h; simp at h; exact absurd h.2 h1
  · rw [if_neg h1] at h
    have hc : cc s.length s = ((cc s.length s).1, (cc s.length s).2.1, 0) := by
      have : (cc s.length s).2.2 = 0 := by omega
      rw [← this]
    obtain ⟨e1, e0⟩ := cc_own hc
    generalize (cc s.length s).1 = n at *
    generalize (cc s.length s).2.1 = u at *
    by_cases h2 : (rdl [] n u).2.1 ≠ 0
    · rw [if_pos h2] at h; simp at h; exact absurd h.2 h2
    · rw [if_neg h2] at h
      by_cases h3 : (rdl [] n u).2.2 ≠ []
      · rw [if_pos h3] at h; simp at h
      · rw [if_neg h3] at h
        simp only [Prod.mk.injEq, and_true] at h
        have h3' : (rdl [] n u).2.2 = [] := by simpa using h3
        have hr : rdl [] n u = (l, 0, []) := by
          have : (rdl [] n u).2.1 = 0 := by omega
          rw [← h, ← this, ← h3']
        obtain ⟨q, e2, e3, e4, e5⟩ := rdl_ok n u [] l [] hr
        rw [List.nil_append] at e2
        subst e2
        refine ⟨(rl_iff l).2 e4, ?_, by omega⟩
        rw [List.append_nil] at e5
        unfold lb
        rw [e3, ← e5, ← e1]
theorem prd_no {s : List UInt8} {k : Nat} (h : (prd s).2 = k) (hk : k ≠ 0) : (prd s).1 = [] := by
  unfold prd at h ⊢
  split
  · rfl
  · rename_i h1
    rw [if_neg h1] at h
    split
    · rfl
    · rename_i h2
      rw [if_neg h2] at h
      split
      · rfl
      · rename_i h3
        rw [if_neg h3] at h
        exact absurd h.symm hk
end Go.Proofs.Ytgakcpcpfkoaiaa.Pr

/-
  Values as they are written, in plain mathematics: what is written is read, what is read is written, none is written as another one.
-/
import Derived.Test.YtpickeicchmhnaaDoorVaTxt
namespace Go.Proofs.YtpickeicchmhnaaDoor.Va
open Go.Proofs.YtpickeicchmhnaaDoor.Ov Go.Proofs.YtpickeicchmhnaaDoor.Tp Go.Proofs.YtpickeicchmhnaaDoor.Ga

/-- What may stand behind a value that is written. -/
def ends (v : Va) (r : List UInt8) : Prop := v.k ≠ 1 → noDigit r ∧ (v.k = 0 → r.head? ≠ some 58)
theorem itoa_head (m : Int) : ∃ c t, Lib.itoa m = c :: t ∧ (c = 45 ∨ dg c = true) := by
  unfold Lib.itoa
  by_cases h : m < 0
  · rw [if_pos h]; exact ⟨_, _, rfl, .inl rfl⟩
  · rw [if_neg h]
    obtain ⟨c, t, e, hd⟩ := head_dec m.toNat
    exact ⟨c, t, e, .inr hd⟩
theorem pz_num {l : List UInt8} {c : UInt8} {t : List UInt8} (e : l = c :: t) (h : c = 45 ∨ dg c = true) : pz l = cnum l := by
  subst e
  have h34 : c ≠ 34 := by
    rcases h with h | h
    · rw [h]; decide
    · exact (dg_ne h).2.2
  unfold pz
  refine (if_neg (fun e => h34 (Option.some.inj e))).trans (if_pos ?_)
  rcases h with h | h
  · left; rw [h]; rfl
  · right; exact ⟨c, rfl, h⟩
theorem pz_wr {v : Va} (h : rt v = true) {r : List UInt8} (hr : ends v r) : pz (wr v ++ r) = (v, (wr v).length, 0) := by
  obtain ⟨k, n, s, x, y⟩ := v
  rcases rt_yes h with ⟨h0, h1, h2, h3, h4, h5⟩ | ⟨h0, h1, h2, h3, h4⟩ | ⟨h0, h1, h2, h3⟩
  · dsimp only at h0 h1 h2 h3 h4 h5
    subst h0; subst h3; subst h4; subst h5
    obtain ⟨g1, g2⟩ := hr (by show ¬ (0 : Int) = 1; decide)
    rw [wr_int]
    obtain ⟨c, t, e, hc⟩ := itoa_head n
    rw [pz_num (c := c) (t := t ++ r) (by rw [e]; rfl) hc]
    exact cnum_int ⟨h1, h2⟩ g1 (g2 rfl)
  · dsimp only at h0 h1 h2 h3 h4
    subst h0; subst h1; subst h3; subst h4
    rw [wr_text]
    unfold pz
    rw [if_pos (by rfl)]
    exact ctx_wr h2 r
  · dsimp only at h0 h1 h2 h3
    subst h0; subst h1; subst h2
    obtain ⟨g1, _⟩ := hr (by show ¬ (2 : Int) = 1; decide)
    rw [wr_point]
    obtain ⟨c, t, e, hc⟩ := itoa_head x
    rw [pz_num (c := c) (t := t ++ [58] ++ Lib.itoa y ++ r) (by rw [e]; rfl) hc]
    exact cnum_point (rb_xy h3) g1
theorem pz_ok {l : List UInt8} {v : Va} {z : Nat} (h : pz l = (v, z, 0)) : rt v = true ∧ l = wr v ++ l.drop z ∧ z = (wr v).length ∧ ends v (l.drop z) := by
  unfold pz at h
  split at h
  · rename_i hh
    obtain ⟨g1, g2, g3, g4⟩ := ctx_ok h hh
    exact ⟨g1, g3, g4, fun h => absurd g2 h⟩
  · split at h
    · obtain ⟨g1, _, g3, g4, g5, g6⟩ := cnum_ok h
      exact ⟨g1, g3, g4, fun _ => ⟨g5, g6⟩⟩
    · simp at h
theorem pz_cases (l : List UInt8) : (∃ v z, pz l = (v, z, 0) ∧ z ≤ l.length) ∨ ∃ k, pz l = (vz, 0, k) ∧ 0 < k ∧ k ≤ 24 := by
  have key : (pz l).2.2 = 0 ∨ ∃ k, pz l = (vz, 0, k) ∧ 0 < k ∧ k ≤ 24 := by
    unfold pz
    split
    · exact ctx_cases l
    · split
      · exact cnum_cases l
      · exact .inr ⟨10, rfl, by omega, by omega⟩
  rcases key with h | h
  · have e : pz l = ((pz l).1, (pz l).2.1, 0) := Prod.ext rfl (Prod.ext rfl h)
    refine .inl ⟨_, _, e, ?_⟩
    obtain ⟨_, g1, g2, _⟩ := pz_ok e
    have := congrArg List.length g1
    rw [List.length_append] at this; omega
  · exact .inr h
theorem noDigit_nil : noDigit [] := fun c h => by simp at h
theorem wr_inj {a b : Va} (ha : rt a = true) (hb : rt b = true) (h : wr a = wr b) : a = b := by
  have h1 := pz_wr ha (r := []) (fun _ => ⟨noDigit_nil, fun _ h => by simp at h⟩)
  have h2 := pz_wr hb (r := []) (fun _ => ⟨noDigit_nil, fun _ h => by simp at h⟩)
  rw [h, h2] at h1
  exact (congrArg Prod.fst h1).symm
/-- Behind a blank nothing goes on. -/
theorem ends_blank (v : Va) (r : List UInt8) : ends v (32 :: r) := fun _ => ⟨fun c hc => by
  obtain rfl : 32 = c := Option.some.inj hc
  decide, fun _ h => absurd (Option.some.inj h) (by decide)⟩
theorem wr_le {v : Va} (h : rt v = true) : (wr v).length ≤ 12290 := by
  obtain ⟨k, n, s, x, y⟩ := v
  rcases rt_yes h with ⟨h0, h1, h2, h3, h4, h5⟩ | ⟨h0, h1, h2, h3, h4⟩ | ⟨h0, h1, h2, h3⟩
  · dsimp only at h0 h1 h2
    subst h0; rw [wr_int]
    have := Lib.itoa_length_le n (by omega) (by omega); omega
  · dsimp only at h0 h2
    subst h0; rw [wr_text]
    have := esc_le s
    simp; omega
  · dsimp only at h0 h3
    subst h0; rw [wr_point]
    obtain ⟨g1, g2⟩ := rb_xy h3
    have h4 := Lib.itoa_length_le x (by omega) (by omega)
    have h5 := Lib.itoa_length_le y (by omega) (by omega)
    simp; omega
/-! ### Bytes -/
theorem vb_inj {a b : Va} (ha : rt a = true) (hb : rt b = true) (h : vb a = vb b) : a = b := by
  obtain ⟨k, n, s, x, y⟩ := a
  obtain ⟨k', n', s', x', y'⟩ := b
  have first : ∀ {i j : Nat} {r t : List UInt8}, i ≤ 9007199254740991 → j ≤ 9007199254740991 → nb i ++ r = nb j ++ t → i = j ∧ r = t := fun {i j r t} hi hj e => by
    have h1 := cn_laid i r hi
    have h2 := cn_laid j t hj
    rw [e, h2] at h1
    exact ⟨(congrArg Prod.fst h1).symm, (congrArg (fun p => p.2.1) h1).symm⟩
  have kind : ∀ {v : Va}, rt v = true → ∃ (i : Nat) (r : List UInt8), vb v = nb i ++ r ∧ v.k = (i : Int) ∧ i ≤ 2 := fun {v} hv => by
    obtain ⟨k, n, s, x, y⟩ := v
    rcases rt_yes hv with ⟨h0, _⟩ | ⟨h0, _⟩ | ⟨h0, _⟩
    · dsimp only at h0; subst h0; rw [vb_int, List.append_assoc]; exact ⟨0, _, rfl, rfl, by omega⟩
    · dsimp only at h0; subst h0; rw [vb_text]; exact ⟨1, _, rfl, rfl, by omega⟩
    · dsimp only at h0; subst h0; rw [vb_point, List.append_assoc]; exact ⟨2, _, rfl, rfl, by omega⟩
  have hk : k = k' := by
    obtain ⟨i, r, e1, e2, e3⟩ := kind ha
    obtain ⟨j, t, g1, g2, g3⟩ := kind hb
    rw [e1, g1] at h
    have := (first (by omega) (by omega) h).1
    change k = (i : Int) at e2; change k' = (j : Int) at g2
    omega
  subst hk
  have back : ∀ {m : Int}, sg (wn m) = m := fun {m} => sg_wn m
  rcases rt_yes ha with ⟨h0, h1, h2, h3, h4, h5⟩ | ⟨h0, h1, h2, h3, h4⟩ | ⟨h0, h1, h2, h3⟩
  · dsimp only at h0 h1 h2 h3 h4 h5
    subst h0; subst h3; subst h4; subst h5
    obtain ⟨⟨g1, g2⟩, g3, g4, g5⟩ := rt_int_in hb
    subst g3; subst g4; subst g5
    rw [vb_int, vb_int, List.append_assoc, List.append_assoc] at h
    have e1 := (first (by omega) (by omega) h).2
    obtain ⟨e2, e3⟩ := first (i := wn (n / 134217728)) (j := wn (n' / 134217728)) (wn_le (by omega) (by omega)) (wn_le (by omega) (by omega)) e1
    have e4 := (first (i := (n % 134217728).toNat) (j := (n' % 134217728).toNat) (r := []) (t := []) (by omega) (by omega) (by rw [List.append_nil, List.append_nil]; exact e3)).1
    have e5 := congrArg sg e2
    rw [back, back] at e5
    have : n = n' := by omega
    rw [this]
  · dsimp only at h0 h1 h2 h3 h4
    subst h0; subst h1; subst h3; subst h4
    obtain ⟨g1, g2, g3, g4⟩ := rt_text_in hb
    subst g2; subst g3; subst g4
    rw [vb_text, vb_text] at h
    have e1 := (first (by omega) (by omega) h).2
    have e2 := (first (by omega) (by omega) e1).2
    rw [e2]
  · dsimp only at h0 h1 h2 h3
    subst h0; subst h1; subst h2
    obtain ⟨⟨g1, g2⟩, g3, g4⟩ := rt_point_in hb
    subst g3; subst g4
    obtain ⟨f1, f2⟩ := rb_xy h3
    rw [vb_point, vb_point, List.append_assoc, List.append_assoc] at h
    have e1 := (first (by omega) (by omega) h).2
    obtain ⟨e2, e3⟩ := first (i := wn x) (j := wn x') (wn_le (by omega) (by omega)) (wn_le (by omega) (by omega)) e1
    have e4 := (first (i := wn y) (j := wn y') (r := []) (t := []) (wn_le (by omega) (by omega)) (wn_le (by omega) (by omega)) (by rw [List.append_nil, List.append_nil]; exact e3)).1
    have e5 := congrArg sg e2
    have e6 := congrArg sg e4
    rw [back, back] at e5 e6
    rw [e5, e6]
end Go.Proofs.YtpickeicchmhnaaDoor.Va

/-
  A text of this claim: ExRun.
-/
import Derived.Test.YtimllihegnokeaaGreatDoorQ1
namespace Go.Proofs.YtimllihegnokeaaGreatDoor.Ex
open Ov Tp Ga Va
def nz : No := ⟨0, vz⟩
def bl : List UInt8 → Nat
 | [] => 0
 | c :: t => if c = 32 then bl t + 1 else 0
theorem bl_blank (t : List UInt8) : bl (32 :: t) = bl t + 1 := by show (if (32 : UInt8) = 32 then _ else _) = _; rw [if_pos rfl]
theorem bl_other {c : UInt8} (t : List UInt8) (h : c ≠ 32) : bl (c :: t) = 0 := if_neg h
theorem bl_le (t : List UInt8) : bl t ≤ t.length := by
 induction t with
 | nil => exact Nat.le_refl 0
 | cons c t ih => show (if c = 32 then bl t + 1 else 0) ≤ t.length + 1; split <;> omega
def sh : List UInt8 → Nat
 | [] => 2
 | c :: _ => if c = 41 then 0 else 12
def le (c : UInt8) : Bool := decide (97 ≤ c.toNat ∧ c.toNat ≤ 122)
def fl (t : List UInt8) : List UInt8 := t.takeWhile le
theorem fl_le (t : List UInt8) : (fl t).length ≤ t.length := (List.takeWhile_sublist le).length_le
def isK (w : List UInt8) (i : Nat) : Bool := decide (2 ≤ i ∧ wdl[i]! = w)
def isN (w : List UInt8) (i : Nat) : Bool := decide (nml[i]! = w)
def kf (w : List UInt8) : Option Nat := (List.range 30).find? (isK w)
def nf (w : List UInt8) : Option Nat := (List.range 5).find? (isN w)
def ck (t : List UInt8) : No × Nat × Nat := match kf (fl t.tail) with
 | none => (nz, 1, 10)
 | some i => (⟨(i : Int), vz⟩, 1 + (fl t.tail).length, 0)
def cn (t : List UInt8) : No × Nat × Nat := match nf (fl t) with
 | none => (nz, 0, 10)
 | some i => (⟨1, nv (i : Int)⟩, (fl t).length, 0)
def cv (t : List UInt8) : No × Nat × Nat := if (pz t).2.2 = 10 then cn t else if (pz t).2.2 ≠ 0 then (nz, 0, (pz t).2.2) else (⟨0, (pz t).1⟩, (pz t).2.1, 0)
def cp (t : List UInt8) (b w : Nat) : No × Nat × Nat :=
 if t = [] then (nz, 0, 2) else if b = 400 then (nz, 0, 22) else if 24 < w then (nz, 0, 23) else if 0 < w ∧ t.head? = some 41 then (nz, 0, 12) else if t.head? = some 40 then ck t else cv t
theorem kf_some {w : List UInt8} {i : Nat} (h : kf w = some i) : i < 30 ∧ 2 ≤ i ∧ wdl[i]! = w := by
 have h1 := List.find?_some h
 have h2 := List.mem_of_find?_eq_some h
 have := of_decide_eq_true h1
 exact ⟨List.mem_range.1 h2, this.1, this.2⟩
theorem nf_some {w : List UInt8} {i : Nat} (h : nf w = some i) : i < 5 ∧ nml[i]! = w := by
 have h1 := List.find?_some h
 have h2 := List.mem_of_find?_eq_some h
 exact ⟨List.mem_range.1 h2, of_decide_eq_true h1⟩
theorem kf_all : ∀ i : Fin 30, 2 ≤ i.val → kf wdl[i.val]! = some i.val ∧ wdl[i.val]!.all le = true := by decide +kernel
theorem nf_all : ∀ i : Fin 5, nf nml[i.val]! = some i.val ∧ nml[i.val]!.all le = true := by decide +kernel
theorem cp_ok {t : List UInt8} {b w : Nat} {n : No} {z : Nat} (h : cp t b w = (n, z, 0)) : rn n = true ∧ w ≤ 24 ∧ b ≠ 400 ∧ 1 ≤ z ∧ z ≤ t.length ∧ (0 ≤ n.o ∧ n.o ≤ 29) := by
 unfold cp at h
 split at h
 · simp at h
 rename_i h0
 split at h
 · simp at h
 rename_i h1
 split at h
 · simp at h
 rename_i h2
 split at h
 · simp at h
 split at h
 · rename_i h4
   unfold ck at h
   cases e : kf (fl t.tail) with
   | none => rw [e] at h; simp at h
   | some i =>
     rw [e] at h
     simp only [Prod.mk.injEq] at h
     obtain ⟨rfl, rfl, _⟩ := h
     obtain ⟨g1, g2, g3⟩ := kf_some e
     have hl : (fl t.tail).length ≤ t.tail.length := fl_le _
     have h5 : 0 < t.length := List.length_pos_iff.2 h0
     refine ⟨?_, by omega, h1, by omega, by rw [List.length_tail] at hl; omega, by constructor <;> (dsimp only; omega)⟩
     unfold rn
     rw [if_neg (by dsimp only; omega), if_neg (by dsimp only; omega)]
     exact decide_eq_true ⟨by constructor <;> (dsimp only; omega), rfl⟩
 · unfold cv at h
   split at h
   · unfold cn at h
     cases e : nf (fl t) with
     | none => rw [e] at h; simp at h
     | some i =>
       rw [e] at h
       simp only [Prod.mk.injEq] at h
       obtain ⟨rfl, rfl, _⟩ := h
       obtain ⟨g1, g3⟩ := nf_some e
       have := (names_all ⟨i, g1⟩).1
       rw [show nml[(⟨i, g1⟩ : Fin 5).val]! = fl t from g3] at this
       refine ⟨?_, by omega, h1, this, fl_le t, by constructor <;> (dsimp only; omega)⟩
       unfold rn
       rw [if_neg (by dsimp only; omega), if_pos rfl]
       exact decide_eq_true ⟨rfl, by show (0 : Int) ≤ (i : Int); omega, by show (i : Int) < 5; omega⟩
   · rename_i h5
     split at h
     · rename_i h6
       simp only [Prod.mk.injEq] at h
       exact absurd h.2.2 h6
     · rename_i h6
       simp only [Prod.mk.injEq] at h
       obtain ⟨rfl, rfl, _⟩ := h
       obtain ⟨g1, g2, g3, g4⟩ := pz_ok (show pz t = ((pz t).1, (pz t).2.1, 0) from Prod.ext rfl (Prod.ext rfl (Decidable.not_not.1 h6)))
       have hz : 1 ≤ (pz t).2.1 := by
        rcases Nat.eq_zero_or_pos (pz t).2.1 with h7 | h7
        · rw [h7] at g3
          have h8 : wr (pz t).1 = [] := List.eq_nil_of_length_eq_zero g3.symm
          have := pz_wr g1 (r := []) (fun _ => ⟨noDigit_nil, fun _ => by simp⟩)
          rw [h8] at this
          have h9 : pz ([] ++ []) = (vz, 0, 10) := by unfold pz; simp
          rw [h9] at this
          simp at this
        · exact h7
       have hle : (pz t).2.1 ≤ t.length := by
        rcases pz_cases t with ⟨v, z, e, hz⟩ | ⟨k, e, hk, _⟩
        · rw [e]; exact hz
        · rw [e]; exact Nat.zero_le _
       refine ⟨?_, by omega, h1, hz, hle, by constructor <;> (dsimp only; omega)⟩
       unfold rn
       rw [if_pos rfl]; exact g1
theorem cp_size (t : List UInt8) (b w : Nat) : (cp t b w).2.1 ≤ t.length := by
 by_cases h : (cp t b w).2.2 = 0
 · exact (cp_ok (show cp t b w = ((cp t b w).1, (cp t b w).2.1, 0) from Prod.ext rfl (Prod.ext rfl h))).2.2.2.2.1
 · unfold cp at h ⊢
   split
   · exact Nat.zero_le _
   rename_i h0
   have h5 : 0 < t.length := List.length_pos_iff.2 h0
   split
   · exact Nat.zero_le _
   split
   · exact Nat.zero_le _
   split
   · exact Nat.zero_le _
   split
   · unfold ck
     split
     · exact h5
     · have hl : (fl t.tail).length ≤ t.tail.length := fl_le _
       rw [List.length_tail] at hl
       show 1 + _ ≤ _
       omega
   · unfold cv
     split
     · unfold cn
       split
       · exact Nat.zero_le _
       · exact fl_le t
     · split
       · exact Nat.zero_le _
       · rcases pz_cases t with ⟨v, z, e, hz⟩ | ⟨k, e, hk, _⟩
         · rw [e]; exact hz
         · rw [e]; exact Nat.zero_le _
structure St where
 a : List No
 st : List Nat
 t : List UInt8
 i : Nat
def push (n : No) (m : Nat) (more : List Nat) : List Nat := if 0 < pa n.o then pa n.o :: m :: more else m :: more
def step (s : St) : Sum St (List No × Nat × Nat) :=
 match s.st with
 | [] => .inr ([], s.i + bl s.t, 10)
 | m :: more =>
   if 0 < m then
    if (cp (s.t.drop (bl s.t)) s.a.length more.length).2.2 ≠ 0 then .inr ([], s.i + bl s.t + (cp (s.t.drop (bl s.t)) s.a.length more.length).2.1, (cp (s.t.drop (bl s.t)) s.a.length more.length).2.2)
    else .inl ⟨s.a ++ [(cp (s.t.drop (bl s.t)) s.a.length more.length).1], push (cp (s.t.drop (bl s.t)) s.a.length more.length).1 (m - 1) more, (s.t.drop (bl s.t)).drop (cp (s.t.drop (bl s.t)) s.a.length more.length).2.1, s.i + bl s.t + (cp (s.t.drop (bl s.t)) s.a.length more.length).2.1⟩
   else if more ≠ [] then
    if sh (s.t.drop (bl s.t)) ≠ 0 then .inr ([], s.i + bl s.t, sh (s.t.drop (bl s.t))) else .inl ⟨s.a, more, (s.t.drop (bl s.t)).drop 1, s.i + bl s.t + 1⟩
   else if s.t.drop (bl s.t) ≠ [] then .inr ([], s.i + bl s.t, 10) else .inr (s.a, 0, 0)
theorem sh_ok {t : List UInt8} (h : sh t = 0) : ∃ u, t = 41 :: u := by
 cases t with
 | nil => cases h
 | cons c u =>
   by_cases hc : c = 41
   · exact ⟨u, by rw [hc]⟩
   · rw [show sh (c :: u) = 12 from if_neg hc] at h; cases h
theorem step_inl {s s' : St} (h : step s = .inl s') : s'.t.length < s.t.length ∧ s'.i + s'.t.length = s.i + s.t.length ∧ s'.st ≠ [] ∧
 ((∃ m more n z, s.st = (m + 1) :: more ∧ cp (s.t.drop (bl s.t)) s.a.length more.length = (n, z, 0) ∧ s'.a = s.a ++ [n] ∧ s'.st = push n m more) ∨ (∃ more, s.st = 0 :: more ∧ more ≠ [] ∧ s'.a = s.a ∧ s'.st = more)) := by
 unfold step at h
 have hb := bl_le s.t
 split at h
 · cases h
 rename_i m more hst
 split at h
 · rename_i hm
   split at h
   · cases h
   · rename_i he
     obtain rfl := Sum.inl.inj h
     have hc : cp (s.t.drop (bl s.t)) s.a.length more.length = ((cp (s.t.drop (bl s.t)) s.a.length more.length).1, (cp (s.t.drop (bl s.t)) s.a.length more.length).2.1, 0) :=
      Prod.ext rfl (Prod.ext rfl (Decidable.not_not.1 he))
     obtain ⟨_, _, _, h1, h2, _⟩ := cp_ok hc
     rw [List.length_drop] at h2
     refine ⟨?_, ?_, ?_, .inl ⟨m - 1, more, _, _, ?_, hc, rfl, rfl⟩⟩
     · dsimp only; rw [List.length_drop, List.length_drop]; omega
     · dsimp only; rw [List.length_drop, List.length_drop]; omega
     · dsimp only; unfold push; split <;> simp
     · rw [hst, show m - 1 + 1 = m by omega]
 · rename_i hm
   obtain rfl : m = 0 := by omega
   split at h
   · rename_i hne
     split at h
     · cases h
     · rename_i he
       obtain rfl := Sum.inl.inj h
       obtain ⟨u, hu⟩ := sh_ok (Decidable.not_not.1 he)
       have hl : (s.t.drop (bl s.t)).length = u.length + 1 := by rw [hu]; rfl
       rw [List.length_drop] at hl
       refine ⟨?_, ?_, hne, .inr ⟨more, hst, hne, rfl, rfl⟩⟩
       · dsimp only; rw [List.length_drop, List.length_drop]; omega
       · dsimp only; rw [List.length_drop, List.length_drop]; omega
   · split at h <;> cases h
theorem step_inr {s : St} {r : List No × Nat × Nat} (h : step s = .inr r) : (r.2.2 ≠ 0 ∧ r.1 = [] ∧ r.2.1 ≤ s.i + s.t.length) ∨ (s.st = [0] ∧ r = (s.a, 0, 0)) := by
 unfold step at h
 have hb := bl_le s.t
 split at h
 · obtain rfl := Sum.inr.inj h
   exact .inl ⟨show (10 : Nat) ≠ 0 by decide, rfl, by show s.i + bl s.t ≤ _; omega⟩
 rename_i m more hst
 split at h
 · split at h
   · rename_i he
     obtain rfl := Sum.inr.inj h
     have := cp_size (s.t.drop (bl s.t)) s.a.length more.length
     rw [List.length_drop] at this
     exact .inl ⟨he, rfl, by dsimp only; omega⟩
   · cases h
 · rename_i hm
   split at h
   · split at h
     · rename_i he
       obtain rfl := Sum.inr.inj h
       exact .inl ⟨he, rfl, by dsimp only; omega⟩
     · cases h
   · rename_i hne
     split at h
     · obtain rfl := Sum.inr.inj h
       exact .inl ⟨show (10 : Nat) ≠ 0 by decide, rfl, by dsimp only; omega⟩
     · obtain rfl := Sum.inr.inj h
       refine .inr ⟨?_, rfl⟩
       rw [hst, Decidable.not_not.1 hne, show m = 0 by omega]
def run : Nat → St → List No × Nat × Nat
 | 0, _ => ([], 0, 0)
 | f + 1, s => match step s with
   | .inr r => r
   | .inl s' => run f s'
theorem run_inl {f : Nat} {s s' : St} (h : step s = .inl s') : run (f + 1) s = run f s' := by
 show (match step s with | .inr r => r | .inl s' => run f s') = _
 rw [h]
theorem run_inr {f : Nat} {s : St} {r : List No × Nat × Nat} (h : step s = .inr r) : run (f + 1) s = r := by
 show (match step s with | .inr r => r | .inl s' => run f s') = _
 rw [h]
theorem run_any : ∀ f g s, s.t.length < f → s.t.length < g → run f s = run g s
 | 0, _, _, h, _ => by omega
 | _ + 1, 0, _, _, h => by omega
 | f + 1, g + 1, s, h1, h2 => by
   cases h : step s with
   | inr r => rw [run_inr h, run_inr h]
   | inl s' =>
     have := (step_inl h).1
     rw [run_inl h, run_inl h]; exact run_any f g s' (by omega) (by omega)
def runs (s : St) : List No × Nat × Nat := run (s.t.length + 1) s
theorem runs_go {s s' : St} (h : step s = .inl s') : runs s = runs s' := by
 have := (step_inl h).1
 unfold runs
 rw [run_inl h]; exact run_any _ _ s' (by omega) (by omega)
theorem runs_end {s : St} {r : List No × Nat × Nat} (h : step s = .inr r) : runs s = r := run_inr h
def ps (s : List UInt8) : List No × Nat × Nat := if 4096 < s.length then ([], 0, 3) else runs ⟨[], [1], s, 0⟩
section
variable {l : List UInt8} {acc : List No} {m k b z e : Nat} {more : List Nat} {n : No}
theorem runs_bad_part (hb : bl (l.drop k) = b) (hm : 0 < m) (hc : cp (l.drop (k + b)) acc.length more.length = (n, z, e)) (he : e ≠ 0) : runs ⟨acc, m :: more, l.drop k, k⟩ = ([], k + b + z, e) := by
 refine runs_end ?_
 unfold step
 dsimp only
 rw [hb, List.drop_drop, hc, if_pos hm, if_pos he]
theorem runs_ok_part (hb : bl (l.drop k) = b) (hm : 0 < m) (hc : cp (l.drop (k + b)) acc.length more.length = (n, z, 0)) : runs ⟨acc, m :: more, l.drop k, k⟩ = runs ⟨acc ++ [n], push n (m - 1) more, l.drop (k + b + z), k + b + z⟩ := by
 refine runs_go ?_
 unfold step
 dsimp only
 rw [hb, List.drop_drop, hc, if_pos hm, if_neg (fun h => h rfl), List.drop_drop]
theorem runs_bad_shut (hb : bl (l.drop k) = b) (hm : more ≠ []) (hc : sh (l.drop (k + b)) = e) (he : e ≠ 0) : runs ⟨acc, 0 :: more, l.drop k, k⟩ = ([], k + b, e) := by
 refine runs_end ?_
 unfold step
 dsimp only
 rw [hb, List.drop_drop, hc, if_neg (by omega), if_pos hm, if_pos he]
theorem runs_ok_shut (hb : bl (l.drop k) = b) (hm : more ≠ []) (hc : sh (l.drop (k + b)) = 0) : runs ⟨acc, 0 :: more, l.drop k, k⟩ = runs ⟨acc, more, l.drop (k + b + 1), k + b + 1⟩ := by
 refine runs_go ?_
 unfold step
 dsimp only
 rw [hb, List.drop_drop, hc, if_neg (by omega), if_pos hm, if_neg (fun h => h rfl), List.drop_drop]
theorem runs_left (hb : bl (l.drop k) = b) (hc : l.drop (k + b) ≠ []) : runs ⟨acc, [0], l.drop k, k⟩ = ([], k + b, 10) := by
 refine runs_end ?_
 unfold step
 dsimp only
 rw [hb, List.drop_drop, if_neg (by omega), if_neg (by simp), if_pos hc]
theorem runs_all (hb : bl (l.drop k) = b) (hc : l.drop (k + b) = []) : runs ⟨acc, [0], l.drop k, k⟩ = (acc, 0, 0) := by
 refine runs_end ?_
 unfold step
 dsimp only
 rw [hb, List.drop_drop, if_neg (by omega), if_neg (by simp), if_neg (fun h => h hc)]
end
def fin : List Nat → List No → Option (List No)
 | [], y => some y
 | m :: more, y => (it (ex (25 - more.length)) m y).bind (fin more)
def Whole (s : St) : Prop := s.a.length ≤ 400 ∧ ∀ y, fin [1] (s.a ++ y) = fin s.st y
theorem whole_go {s s' : St} (h : Whole s) (hs : step s = .inl s') : Whole s' := by
 obtain ⟨_, _, _, hc⟩ := step_inl hs
 rcases hc with ⟨m, more, n, z, hst, hp, ha, hst'⟩ | ⟨more, hst, hne, ha, hst'⟩
 · obtain ⟨hn, hw, hb, _⟩ := cp_ok hp
   obtain ⟨h1, h2⟩ := h
   refine ⟨by rw [ha, List.length_append, List.length_singleton]; omega, fun y => ?_⟩
   rw [ha, hst', List.append_assoc, h2, hst]
   obtain ⟨D, hD⟩ : ∃ D, 25 - more.length = D + 1 := ⟨24 - more.length, by omega⟩
   show (it (ex (25 - more.length)) (m + 1) (n :: y)).bind (fin more) = _
   rw [hD, it_succ, ex_cons, if_pos hn]
   have hM : fin (m :: more) = fun z => (it (ex (D + 1)) m z).bind (fin more) := by
    funext z
    show (it (ex (25 - more.length)) m z).bind (fin more) = _
    rw [hD]
   unfold push
   split
   · show _ = (it (ex (25 - (m :: more).length)) (pa n.o) y).bind (fin (m :: more))
     rw [hM, show 25 - (m :: more).length = D by rw [List.length_cons]; omega, Option.bind_assoc]
   · rename_i h0
     rw [show pa n.o = 0 by omega, hM, it_zero]
     rfl
 · refine ⟨by rw [ha]; exact h.1, fun y => ?_⟩
   rw [ha, hst', h.2, hst]
   rfl
theorem whole_runs : ∀ k s, s.t.length ≤ k → Whole s → ∀ l at_, runs s = (l, at_, 0) → at_ = 0 ∧ Rt l = true := by
 intro k
 induction k with
 | zero =>
   intro s hk hw l at_ h
   cases hs : step s with
   | inl s' => have := (step_inl hs).1; omega
   | inr r =>
     rw [runs_end hs] at h
     rcases step_inr hs with ⟨h1, _⟩ | ⟨h1, h2⟩
     · rw [h] at h1; exact absurd rfl h1
     · rw [h] at h2
       simp only [Prod.mk.injEq] at h2
       obtain ⟨rfl, rfl, _⟩ := h2
       refine ⟨rfl, decide_eq_true ⟨hw.1, ?_⟩⟩
       have h3 := hw.2 []
       rw [List.append_nil, h1] at h3
       have h4 : (it (ex 25) 1 s.a).bind (fin []) = some [] := h3
       rw [it_succ] at h4
       cases h5 : ex 25 s.a with
       | none => rw [h5] at h4; cases h4
       | some y => rw [h5] at h4; exact h4
 | succ k ih =>
   intro s hk hw l at_ h
   cases hs : step s with
   | inl s' =>
     have := (step_inl hs).1
     rw [runs_go hs] at h
     exact ih s' (by omega) (whole_go hw hs) l at_ h
   | inr r =>
     rw [runs_end hs] at h
     rcases step_inr hs with ⟨h1, _⟩ | ⟨h1, h2⟩
     · rw [h] at h1; exact absurd rfl h1
     · rw [h] at h2
       simp only [Prod.mk.injEq] at h2
       obtain ⟨rfl, rfl, _⟩ := h2
       refine ⟨rfl, decide_eq_true ⟨hw.1, ?_⟩⟩
       have h3 := hw.2 []
       rw [List.append_nil, h1] at h3
       have h4 : (it (ex 25) 1 s.a).bind (fin []) = some [] := h3
       rw [it_succ] at h4
       cases h5 : ex 25 s.a with
       | none => rw [h5] at h4; cases h4
       | some y => rw [h5] at h4; exact h4
theorem ps_ok {s : List UInt8} {l : List No} {at_ : Nat} (h : ps s = (l, at_, 0)) : at_ = 0 ∧ Rt l = true := by
 unfold ps at h
 split at h
 · simp at h
 · exact whole_runs _ ⟨[], [1], s, 0⟩ (Nat.le_refl _) ⟨Nat.zero_le _, fun y => rfl⟩ l at_ h
end Go.Proofs.YtimllihegnokeaaGreatDoor.Ex

/-
  Small texts of this claim, together: EvAll, EvRun, JoPlain, JoText, JoFull, JoLines, JoMem, ExLaw, ExBoth, JoTake, JoAnsT, JoNumT, JoRead, JoTk, JoSlot, JoMade, JoOnly, JoRight.
-/
import Derived.Test.YtimllihegnokeaaGreatDoorQ6
import Derived.Test.YtimllihegnokeaaGreatDoorQEvDeed6
import Derived.Test.YtimllihegnokeaaGreatDoorQEvDeed9
import Derived.Deep.MidRow
import Derived.Deep.WholeRow
import Derived.Test.YtimllihegnokeaaGreatDoorQ2
import Derived.Test.YtimllihegnokeaaGreatDoorQExWrite
import Derived.Lib.ItoaLen
import Derived.Test.YtimllihegnokeaaGreatDoorQ4
import Derived.Test.YtimllihegnokeaaGreatDoorQExParse
import Derived.Test.YtimllihegnokeaaGreatDoorQ5
import Derived.Maps.RangeWalk
import Derived.Deep.Cut
import Derived.Test.YtimllihegnokeaaGreatDoorQ3
import Derived.ChangeKeysEq
namespace Go.Proofs.YtimllihegnokeaaGreatDoor.Ev
open Go.ChangeShapes Go.WideShapes Go.ChangeAt Go.RowKit Ov Va Ga Ex
theorem blk_puts {w : World} {B : Nat} : ∀ (vs : List Value) (o : Nat) {xs : List Value}, Blk w B xs → o + vs.length ≤ xs.length → Blk (putL w B o vs) B (xs.take o ++ vs ++ xs.drop (o + vs.length)) := by
 intro vs
 induction vs generalizing w with
 | nil => intro o xs h _; simpa [putL] using h
 | cons v vs ih =>
   intro o xs h hl
   rw [List.length_cons] at hl
   have := ih (o + 1) (h.set o v) (by rw [List.length_set]; omega)
   have e : (xs.set o v).take (o + 1) ++ vs ++ (xs.set o v).drop (o + 1 + vs.length) = xs.take o ++ v :: vs ++ xs.drop (o + (v :: vs).length) := by
    rw [List.take_set, List.drop_set, if_pos (by omega), List.length_cons, show o + 1 + vs.length = o + (vs.length + 1) by omega]
    congr 1
    rw [List.take_succ_eq_append_getElem (show o < xs.length by omega), List.set_append_right _ _ (by rw [List.length_take]; omega), List.length_take, show o - min o xs.length = 0 by omega]
    simp
   rw [e] at this
   exact this
theorem below_puts {w0 w : World} {lo B : Nat} : ∀ (vs : List Value) (o : Nat), Below lo w0 w → lo ≤ B → Below lo w0 (putL w B o vs) := by
 intro vs
 induction vs generalizing w with
 | nil => intro o h _; exact h
 | cons v vs ih => intro o h hB; exact ih (o + 1) (h.setCell hB _) hB
theorem cell_puts_other {w : World} {B C i : Nat} (hc : C ≠ B) (vs : List Value) : ∀ (o : Nat), (putL w C o vs).cell? ⟨B, i, none⟩ = w.cell? ⟨B, i, none⟩ := by
 induction vs generalizing w with
 | nil => intro o; rfl
 | cons v vs ih => intro o; exact (ih (o + 1)).trans (World.cell?_setCell_other _ _ _ _ (fun e => hc (by injection e)))
end Go.Proofs.YtimllihegnokeaaGreatDoor.Ev
namespace Go.Proofs.YtimllihegnokeaaGreatDoor.Jo
open Ov Va Ex Ev
structure Jb where
 nm : List UInt8
 t : Int
 p : Int
 k : Int
 n : Int
 f : Int
 m : List No
 b : List No
 r : List No
 fd : List UInt8
 cb : Bool
def numOk (j : Jb) : Bool := wn1 j.t 16 && wn1 j.p 16 && wn1 j.n 16 && wn1 j.k j.n && wn1 j.f 100000
def exOk (j : Jb) : Bool := Rt j.m && (j.b.isEmpty || Rt j.b) && (j.r.isEmpty || Rt j.r)
def fdOk (j : Jb) : Bool := if j.r.isEmpty then isF j.fd else j.fd.isEmpty
def hs (l : List No) (i : Nat) : Bool := Rt l && hasN l l.length i
def em (l : List No) : Bool := l.any fun n => n.o == 26
def wdOk (j : Jb) : Bool := !hs j.m 2 && (!(hs j.b 1 || hs j.b 2 || hs j.b 3 || hs j.b 4) && (!em j.b && !em j.r))
def jr (j : Jb) : Int :=
 if nmOk j.nm = false then 11 else if numOk j = false then 14 else if (exOk j && fdOk j) = false then 1 else if wdOk j = false then 10 else if (j.cb && j.fd.isEmpty) = true then 19 else 0
theorem jr_zero {j : Jb} (h : jr j = 0) : nmOk j.nm = true ∧ numOk j = true ∧ (exOk j && fdOk j) = true ∧ wdOk j = true ∧ (j.cb && j.fd.isEmpty) = false := by
 unfold jr at h
 by_cases h1 : nmOk j.nm = false
 · rw [if_pos h1] at h; cases h
 rw [if_neg h1] at h
 by_cases h2 : numOk j = false
 · rw [if_pos h2] at h; cases h
 rw [if_neg h2] at h
 by_cases h3 : (exOk j && fdOk j) = false
 · rw [if_pos h3] at h; cases h
 rw [if_neg h3] at h
 by_cases h4 : wdOk j = false
 · rw [if_pos h4] at h; cases h
 rw [if_neg h4] at h
 by_cases h5 : (j.cb && j.fd.isEmpty) = true
 · rw [if_pos h5] at h; cases h
 exact ⟨by simpa using h1, by simpa using h2, by simpa using h3, by simpa using h4, by simpa using h5⟩
theorem wn1_in {n most : Int} (h : wn1 n most = true) : 1 ≤ n ∧ n ≤ most := by
 unfold wn1 at h; rw [Bool.and_eq_true] at h; exact ⟨of_decide_eq_true h.1, of_decide_eq_true h.2⟩
theorem numOk_in {j : Jb} (h : numOk j = true) : (1 ≤ j.t ∧ j.t ≤ 16) ∧ (1 ≤ j.p ∧ j.p ≤ 16) ∧ (1 ≤ j.n ∧ j.n ≤ 16) ∧ (1 ≤ j.k ∧ j.k ≤ j.n) ∧ 1 ≤ j.f ∧ j.f ≤ 100000 := by
 unfold numOk at h
 simp only [Bool.and_eq_true] at h
 obtain ⟨⟨⟨⟨h1, h2⟩, h3⟩, h4⟩, h5⟩ := h
 exact ⟨wn1_in h1, wn1_in h2, wn1_in h3, wn1_in h4, wn1_in h5⟩
def ln (a d : List UInt8) : List UInt8 := (a ++ 32 :: d) ++ [10]
def w1 (j : Jb) : List UInt8 := [] ++ ln [106, 111, 98] j.nm
def w2 (j : Jb) : List UInt8 := w1 j ++ ln [116, 97, 115, 107, 115] (Lib.itoa j.t)
def w3 (j : Jb) : List UInt8 := w2 j ++ ln [112, 97, 114, 116, 115] (Lib.itoa j.p)
def w4 (j : Jb) : List UInt8 := w3 j ++ ln [99, 111, 100, 101] (Lib.itoa j.k ++ 32 :: Lib.itoa j.n)
def w5 (j : Jb) : List UInt8 := w4 j ++ ln [102, 117, 101, 108] (Lib.itoa j.f)
def w6 (j : Jb) : List UInt8 := w5 j ++ ln [109, 97, 112] (wq j.m).1
def w7 (j : Jb) : List UInt8 := if j.b.length = 0 then w6 j else w6 j ++ ln [98, 121] (wq j.b).1
def w8 (j : Jb) : List UInt8 := if j.fd.isEmpty = true then w7 j ++ ln [114, 101, 100, 117, 99, 101] (wq j.r).1 else w7 j ++ ln [102, 111, 108, 100] j.fd
def w9 (j : Jb) : List UInt8 := w8 j ++ ln [99, 111, 109, 98, 105, 110, 101] (if j.cb then yesL else noL)
def x6 (j : Jb) : Int := orl [0, ((wq j.m).2 : Int)]
def x7 (j : Jb) : Int := if j.b.length = 0 then x6 j else orl [x6 j, ((wq j.b).2 : Int)]
def x8 (j : Jb) : Int := if j.fd.isEmpty = true then orl [x7 j, ((wq j.r).2 : Int)] else x7 j
def jwq (j : Jb) : List UInt8 × Int := if jr j ≠ 0 then ([], jr j) else if x8 j = 0 then (if 4096 < (w9 j).length then ([], 3) else (w9 j, 0)) else ([], x8 j)
theorem ln_len (a d : List UInt8) : (ln a d).length = a.length + d.length + 2 := by unfold ln; simp; omega
theorem wq_len (l : List No) : (wq l).1.length ≤ 4096 := by
 unfold wq
 split
 · split
   · exact Nat.zero_le _
   · show (wt 25 l).length ≤ 4096; omega
 · exact Nat.zero_le _
theorem fd_len {s : List UInt8} (h : isF s = true) : s.length = 3 := by
 rcases of_decide_eq_true h with h | h | h | h <;> rw [h] <;> rfl
structure Lens (j : Jb) : Prop where
 l1 : (w1 j).length ≤ 30
 l2 : (w2 j).length ≤ 60
 l3 : (w3 j).length ≤ 90
 l4 : (w4 j).length ≤ 150
 l5 : (w5 j).length ≤ 180
 l6 : (w6 j).length ≤ 5000
 l7 : (w7 j).length ≤ 10000
 l8 : (w8 j).length ≤ 15000
 l9 : (w9 j).length ≤ 16000
 n : j.nm.length ≤ 16
 t : (Lib.itoa j.t).length ≤ 21
 p : (Lib.itoa j.p).length ≤ 21
 k : (Lib.itoa j.k).length ≤ 21
 m : (Lib.itoa j.n).length ≤ 21
 f : (Lib.itoa j.f).length ≤ 21
 fd : j.fd.length ≤ 3
theorem lens {j : Jb} (h : jr j = 0) : Lens j := by
 obtain ⟨h1, h2, h3, _⟩ := jr_zero h
 obtain ⟨b1, b2, b3, b4, b5⟩ := numOk_in h2
 have n : j.nm.length ≤ 16 := by
  unfold nmOk at h1
  simp only [Bool.and_eq_true, decide_eq_true_eq] at h1
  exact h1.2.2
 have t := Lib.itoa_length_le j.t (by omega) (by omega)
 have p := Lib.itoa_length_le j.p (by omega) (by omega)
 have k := Lib.itoa_length_le j.k (by omega) (by omega)
 have m := Lib.itoa_length_le j.n (by omega) (by omega)
 have f := Lib.itoa_length_le j.f (by omega) (by omega)
 have fd : j.fd.length ≤ 3 := by
  rw [Bool.and_eq_true] at h3
  have h4 := h3.2
  unfold fdOk at h4
  split at h4
  · rw [fd_len h4]; exact Nat.le_refl _
  · rw [List.isEmpty_iff.1 h4]; exact Nat.zero_le _
 have q1 := wq_len j.m; have q2 := wq_len j.b; have q3 := wq_len j.r
 have l1 : (w1 j).length ≤ 30 := by unfold w1; rw [List.length_append, ln_len]; simp; omega
 have l2 : (w2 j).length ≤ 60 := by unfold w2; rw [List.length_append, ln_len]; simp; omega
 have l3 : (w3 j).length ≤ 90 := by unfold w3; rw [List.length_append, ln_len]; simp; omega
 have l4 : (w4 j).length ≤ 150 := by unfold w4; rw [List.length_append, ln_len]; simp; omega
 have l5 : (w5 j).length ≤ 180 := by unfold w5; rw [List.length_append, ln_len]; simp; omega
 have l6 : (w6 j).length ≤ 5000 := by unfold w6; rw [List.length_append, ln_len]; simp; omega
 have l7 : (w7 j).length ≤ 10000 := by
  unfold w7; split
  · omega
  · rw [List.length_append, ln_len]; simp; omega
 have l8 : (w8 j).length ≤ 15000 := by
  unfold w8; split
  · rw [List.length_append, ln_len]; simp; omega
  · rw [List.length_append, ln_len]; simp; omega
 have l9 : (w9 j).length ≤ 16000 := by
  unfold w9; rw [List.length_append, ln_len]
  have : (if j.cb then yesL else noL).length ≤ 3 := by cases j.cb <;> decide
  simp; omega
 exact ⟨l1, l2, l3, l4, l5, l6, l7, l8, l9, n, t, p, k, m, f, fd⟩
def f6 (j : Jb) : List UInt8 := w5 j ++ ln [109, 97, 112] (wt 25 j.m)
def f7 (j : Jb) : List UInt8 := if j.b.length = 0 then f6 j else f6 j ++ ln [98, 121] (wt 25 j.b)
def f8 (j : Jb) : List UInt8 := if j.fd.isEmpty = true then f7 j ++ ln [114, 101, 100, 117, 99, 101] (wt 25 j.r) else f7 j ++ ln [102, 111, 108, 100] j.fd
def f9 (j : Jb) : List UInt8 := f8 j ++ ln [99, 111, 109, 98, 105, 110, 101] (if j.cb then yesL else noL)
def big (l : List No) : Bool := decide (4096 < (wt 25 l).length)
def lg (j : Jb) : Bool := big j.m || (!j.b.isEmpty && big j.b) || (!j.r.isEmpty && big j.r) || decide (4096 < (f9 j).length)
theorem wq_yes {l : List No} (h : Rt l = true) : wq l = if big l = true then ([], 3) else (wt 25 l, 0) := by
 unfold wq big; rw [if_pos h]; simp only [decide_eq_true_eq]
theorem jwq_full {j : Jb} (h : jr j = 0) : jwq j = if lg j = true then ([], 3) else (f9 j, 0) := by
 obtain ⟨_, _, h3, _, _⟩ := jr_zero h
 rw [Bool.and_eq_true] at h3
 obtain ⟨h3, h4⟩ := h3
 unfold exOk at h3
 simp only [Bool.and_eq_true] at h3
 obtain ⟨⟨hm, hb⟩, hr⟩ := h3
 unfold fdOk at h4
 have em := wq_yes hm
 have hb0 : (j.b.length = 0) = (j.b.isEmpty = true) := by rw [List.isEmpty_iff_length_eq_zero]
 have eb : j.b.isEmpty = false → wq j.b = if big j.b = true then ([], 3) else (wt 25 j.b, 0) := fun e => wq_yes (by rw [e] at hb; simpa using hb)
 have er : j.r.isEmpty = false → wq j.r = if big j.r = true then ([], 3) else (wt 25 j.r, 0) := fun e => wq_yes (by rw [e] at hr; simpa using hr)
 have hfr : j.fd.isEmpty = !j.r.isEmpty := by
  cases hre : j.r.isEmpty
  · rw [hre] at h4; simpa using h4
  · rw [hre] at h4
    simp only [if_true] at h4
    cases hfe : j.fd with
    | nil => rw [hfe] at h4; exact absurd h4 (by decide)
    | cons _ _ => rfl
 unfold jwq
 rw [if_neg (by omega)]
 unfold lg
 cases hbe : j.b.isEmpty <;> cases hre : j.r.isEmpty <;> cases hbm : big j.m <;> cases hbb : big j.b <;> cases hbr : big j.r <;>
  simp [x8, x7, x6, w9, w8, w7, w6, f9, f8, f7, f6, orl, hb0, hfr, em, eb, er, hbe, hre, hbm, hbb, hbr]
def w12 (t : List UInt8) : List UInt8 × List UInt8 := match cutb 32 t with | some p => p | none => (t, [])
theorem w12_app {a d : List UInt8} (h : (32 : UInt8) ∉ a) : w12 (a ++ 32 :: d) = (a, d) := by unfold w12; rw [cutb_app a d h]
theorem w12_ok {t : List UInt8} (h : (w12 t).2 ≠ []) : t = (w12 t).1 ++ 32 :: (w12 t).2 := by
 unfold w12 at *
 cases ht : cutb 32 t with
 | none => rw [ht] at h; exact absurd rfl h
 | some q => obtain ⟨a, r⟩ := q; exact (cutb_some ht).1
inductive Tk where | nm | t | p | kn | f | m | b | fd | r | cb
def tn (s : List UInt8) : Option Int := match cutb 32 s with | none => dcm s | some _ => none
def tn2 (s : List UInt8) : Option (Int × Int) := match cutb 32 s with
 | none => none
 | some q => match cutb 32 q.2 with
   | some _ => none
   | none => match dcm q.1 with
     | none => none
     | some k => match dcm q.2 with
       | none => none
       | some n => some (k, n)
def te (s : List UInt8) : Option (List No) := if (ps s).2.2 = 0 ∧ wq (ps s).1 = (s, 0) then some (ps s).1 else none
def ty (s : List UInt8) : Option Bool := if s = yesL then some true else if s = noL then some false else none
def tw1 (s : List UInt8) : Option (List UInt8) := if s = [] ∨ (32 : UInt8) ∈ s then none else some s
def tk : Tk → List UInt8 → Jb → Option Jb
 | .nm, s, j => (tw1 s).map fun x => { j with nm := x }
 | .t, s, j => (tn s).map fun x => { j with t := x }
 | .p, s, j => (tn s).map fun x => { j with p := x }
 | .kn, s, j => (tn2 s).map fun x => { j with k := x.1, n := x.2 }
 | .f, s, j => (tn s).map fun x => { j with f := x }
 | .m, s, j => (te s).map fun x => { j with m := x }
 | .b, s, j => (te s).map fun x => { j with b := x }
 | .fd, s, j => (tw1 s).map fun x => { j with fd := x }
 | .r, s, j => (te s).map fun x => { j with r := x }
 | .cb, s, j => (ty s).map fun x => { j with cb := x }
theorem tw1_some {s x : List UInt8} (h : tw1 s = some x) : x = s ∧ s ≠ [] ∧ (32 : UInt8) ∉ s := by
 unfold tw1 at h
 split at h
 · cases h
 · rename_i h1; injection h with h; exact ⟨h.symm, fun e => h1 (Or.inl e), fun e => h1 (Or.inr e)⟩
theorem tn_some {s : List UInt8} {n : Int} (h : tn s = some n) : ∃ m, s = Lib.itoa m ∧ n = cl5 m := by
 unfold tn at h
 split at h
 · exact dcm_some h
 · cases h
theorem tn2_some {s : List UInt8} {q : Int × Int} (h : tn2 s = some q) : ∃ a b, s = Lib.itoa a ++ 32 :: Lib.itoa b ∧ q = (cl5 a, cl5 b) := by
 unfold tn2 at h
 split at h
 · cases h
 rename_i q1 h1
 split at h
 · cases h
 split at h
 · cases h
 rename_i k hk
 split at h
 · cases h
 rename_i n hn
 injection h with h
 obtain ⟨a, ha, ea⟩ := dcm_some hk
 obtain ⟨b, hb, eb⟩ := dcm_some hn
 obtain ⟨q1a, q1b⟩ := q1
 exact ⟨a, b, by rw [← ha, ← hb]; exact (cutb_some h1).1, by rw [← h, ea, eb]⟩
theorem te_some {s : List UInt8} {l : List No} (h : te s = some l) : wq l = (s, 0) := by
 unfold te at h
 split at h
 · rename_i h1; injection h with h; rw [← h]; exact h1.2
 · cases h
theorem ty_some {s : List UInt8} {q : Bool} (h : ty s = some q) : s = if q then yesL else noL := by
 unfold ty at h
 split at h
 · rename_i h1; injection h with h; rw [← h]; exact h1
 · split at h
   · rename_i h1; injection h with h; rw [← h]; exact h1
   · cases h
theorem wq_yes2 {l : List No} {s : List UInt8} (h : wq l = (s, 0)) : Rt l = true ∧ s = wt 25 l ∧ s.length ≤ 4096 := by
 unfold wq at h
 split at h
 · rename_i h1
   split at h
   · injection h with _ h; cases h
   · injection h with h h2
     exact ⟨h1, h.symm, by rw [← h]; omega⟩
 · injection h with _ h; cases h
theorem tk_nil (T : Tk) (j : Jb) : tk T [] j = none := by
 have h1 : tn [] = none := by
  cases h : tn [] with
  | none => rfl
  | some n =>
    obtain ⟨m, e, _⟩ := tn_some h
    have : (Lib.itoa m).length = 0 := by rw [← e]; rfl
    unfold Lib.itoa at this
    split at this
    · cases this
    · exact absurd (List.eq_nil_of_length_eq_zero this) (dec_ne _)
 have h2 : te [] = none := by
  unfold te
  rw [if_neg]
  rintro ⟨h, -⟩
  exact absurd h (by decide)
 cases T <;> simp [tk, tw1, h1, h2, tn2, cutb, ty] <;> decide
end Go.Proofs.YtimllihegnokeaaGreatDoor.Jo
namespace Go.Proofs.YtimllihegnokeaaGreatDoor.Jo
open Go.ChangeShapes Go.WideShapes Go.ChangeAt Go.RowKit Ov Va Ex Ev
structure JL (w : World) (j : Jb) (A1 A2 A3 : Option Addr) : Prop where
 m : Nds w A1 j.m
 b : Nds w A2 j.b
 r : Nds w A3 j.r
 lm : j.m.length ≤ 4294967296
 lb : j.b.length ≤ 4294967296
 lr : j.r.length ≤ 4294967296
theorem JL.next {w w' : World} {j : Jb} {A1 A2 A3 : Option Addr} (h : JL w j A1 A2 A3) (k : Below w.heap.size w w') : JL w' j A1 A2 A3 := ⟨h.m.next k, h.b.next k, h.r.next k, h.lm, h.lb, h.lr⟩
section
variable {w : World} {B : Nat} {x0 x1 x2 x3 x4 x5 x6 x7 x8 x9 x10 : Value}
theorem elev (h : Blk w B [x0, x1, x2, x3, x4, x5, x6, x7, x8, x9, x10]) : w.cell? ⟨B, 0, none⟩ = some x0 ∧ w.cell? ⟨B, 1, none⟩ = some x1 ∧ w.cell? ⟨B, 2, none⟩ = some x2 ∧ w.cell? ⟨B, 3, none⟩ = some x3 ∧ w.cell? ⟨B, 4, none⟩ = some x4 ∧ w.cell? ⟨B, 5, none⟩ = some x5 ∧ w.cell? ⟨B, 6, none⟩ = some x6 ∧ w.cell? ⟨B, 7, none⟩ = some x7 ∧ w.cell? ⟨B, 8, none⟩ = some x8 ∧ w.cell? ⟨B, 9, none⟩ = some x9 ∧ w.cell? ⟨B, 10, none⟩ = some x10 :=
 ⟨h.c 0 _ rfl, h.c 1 _ rfl, h.c 2 _ rfl, h.c 3 _ rfl, h.c 4 _ rfl, h.c 5 _ rfl, h.c 6 _ rfl, h.c 7 _ rfl, h.c 8 _ rfl, h.c 9 _ rfl, h.c 10 _ rfl⟩
theorem elet (h : Blk w B [x0, x1, x2, x3, x4, x5, x6, x7, x8, x9, x10]) : w.frozen? ⟨B, 0, none⟩ = false ∧ w.frozen? ⟨B, 1, none⟩ = false ∧ w.frozen? ⟨B, 2, none⟩ = false ∧ w.frozen? ⟨B, 3, none⟩ = false ∧ w.frozen? ⟨B, 4, none⟩ = false ∧ w.frozen? ⟨B, 5, none⟩ = false ∧ w.frozen? ⟨B, 6, none⟩ = false ∧ w.frozen? ⟨B, 7, none⟩ = false ∧ w.frozen? ⟨B, 8, none⟩ = false ∧ w.frozen? ⟨B, 9, none⟩ = false ∧ w.frozen? ⟨B, 10, none⟩ = false :=
 ⟨h.f 0 _ rfl, h.f 1 _ rfl, h.f 2 _ rfl, h.f 3 _ rfl, h.f 4 _ rfl, h.f 5 _ rfl, h.f 6 _ rfl, h.f 7 _ rfl, h.f 8 _ rfl, h.f 9 _ rfl, h.f 10 _ rfl⟩
theorem made11 (w : World) (t : TypeId) (x0 x1 x2 x3 x4 x5 x6 x7 x8 x9 x10 : Value) : Blk (w.alloc (.cells #[x0, x1, x2, x3, x4, x5, x6, x7, x8, x9, x10] t)) w.heap.size [x0, x1, x2, x3, x4, x5, x6, x7, x8, x9, x10] := Blk.made w t [x0, x1, x2, x3, x4, x5, x6, x7, x8, x9, x10] rfl
end
end Go.Proofs.YtimllihegnokeaaGreatDoor.Jo
namespace Go.Proofs.YtimllihegnokeaaGreatDoor.Ex
open Go.ChangeShapes Go.WideShapes Go.ChangeAt Go.RowKit Ov Va
set_option maxRecDepth 100000 in
set_option maxHeartbeats 2000000 in
theorem same_yes (l : List No) (A B : Option Addr) (c d : Nat) (w : World) (ha : Nds w A l) (hb : Nds w B l) (hl : l.length ≤ 4294967296) : Calls Tryz.prog 41 #[.slice A l.length c, .slice B l.length d] w (Gives (.int .i64 1) w) := by
 have HA := Lib.hid ha; have HB := Lib.hid hb
 clear ha hb
 go_enter Tryz.func41, Tryz.ntmps41
 go_wp2_with (fail)
 go_loopw [5] (fun i wr => ∃ k m : Nat, k ≤ l.length ∧ i = .int .i64 (k : Int) ∧ wr = w.drewN m) (fun i _ => l.length - (intOf i).toNat)
 case atStart => exact ⟨0, 0, Nat.zero_le _, rfl, rfl⟩
 case round =>
  obtain ⟨k, m, hk, rfl, rfl⟩ := hrel
  by_cases hlt : k < l.length
  · obtain ⟨G, O, rfl⟩ := HA.out.shape (by omega)
    obtain ⟨G', O', rfl⟩ := HB.out.shape (by omega)
    have a0 := (HA.out.drewN m).cell hlt 0 _ rfl
    have a1 := (HA.out.drewN m).cell hlt 1 _ rfl
    have a2 := (HA.out.drewN m).cell hlt 2 _ rfl
    have a3 := (HA.out.drewN m).cell hlt 3 _ rfl
    have a4 := (HA.out.drewN m).cell hlt 4 _ rfl
    have a5 := (HA.out.drewN m).cell hlt 5 _ rfl
    have b0 := (HB.out.drewN m).cell hlt 0 _ rfl
    have b1 := (HB.out.drewN m).cell hlt 1 _ rfl
    have b2 := (HB.out.drewN m).cell hlt 2 _ rfl
    have b3 := (HB.out.drewN m).cell hlt 3 _ rfl
    have b4 := (HB.out.drewN m).cell hlt 4 _ rfl
    have b5 := (HB.out.drewN m).cell hlt 5 _ rfl
    rw [Nat.add_zero] at a0 b0
    have hE := fun w => neq_same (nd l k) w
    unfold nov at hE
    generalize nd l k = n at *
    generalize hwo : w.drewN m = wo at *
    have HWO := Lib.hid hwo; clear hwo
    go_wp2_with (fail)
    go_quiet (fail)
    go_wp2_with (fail)
    go_roundw
    case rel => exact ⟨k + 1, m + _, by omega, by go_num, by rw [← HWO.out, World.drewN_drewN]⟩
    case measure => simp [intOf]; omega
  · go_wp2_with (fail)
    go_ret
    exact ⟨rfl, below_drewN (Below.refl _ _) m⟩
theorem wq_cases (l : List No) : (wq l = ([], 1) ∧ Rt l = false) ∨ (wq l = ([], 3) ∧ Rt l = true) ∨ (wq l = (wt 25 l, 0) ∧ Rt l = true ∧ (wt 25 l).length ≤ 4096) := by
 unfold wq
 rcases Bool.eq_false_or_eq_true (Rt l) with hr | hr
 · rw [if_pos hr]
   by_cases h : 4096 < (wt 25 l).length
   · rw [if_pos h]; exact .inr (.inl ⟨rfl, hr⟩)
   · rw [if_neg h]; exact .inr (.inr ⟨rfl, hr, by omega⟩)
 · rw [if_neg (by rw [hr]; decide)]; exact .inl ⟨rfl, hr⟩
end Go.Proofs.YtimllihegnokeaaGreatDoor.Ex
namespace Go.Proofs.YtimllihegnokeaaGreatDoor.Jo
open Go.ChangeShapes Go.WideShapes Go.ChangeAt Go.RowKit Ov Va Ex
def TQ (o : Option (List Value)) (b : Nat) (w : World) (e : Ending) (w' : World) : Prop :=
 ∃ ok, e = .returned (.bool ok) ∧ Tur b w w' ∧ (o = none → ok = false) ∧ (∀ ys, o = some ys → ok = true ∧ Blk w' b ys)
theorem TQ.no {b : Nat} {w w' : World} (h : Tur b w w') : TQ none b w (.returned (.bool false)) w' := ⟨false, rfl, h, fun _ => rfl, fun _ e => by cases e⟩
theorem TQ.yes {b : Nat} {w w' : World} {ys : List Value} (h : Tur b w w') (k : Blk w' b ys) : TQ (some ys) b w (.returned (.bool true)) w' := ⟨true, rfl, h, (fun e => by cases e), fun _ e => by injection e with e; subst e; exact ⟨rfl, k⟩⟩
set_option maxHeartbeats 2000000 in
set_option maxRecDepth 100000 in
theorem tword_any (b i p : Nat) (xs : List Value) (u : Value) (s : ByteArray) (w : World) (hp : w.cell? ⟨p, 0, none⟩ = some (.pointer (some ⟨b, i, none⟩))) (hB : Blk w b xs) (hx : xs[i]? = some u) (hs : s.size ≤ 281474976710656) :
 Calls Tryz.prog 112 #[.string s, .pointer (some ⟨p, 0, none⟩)] w (TQ ((tw1 s.data.toList).map fun x => xs.set i (.string (tx x))) b w) := by
 by_cases h0 : s.size = 0
 · have h1 := empty_of h0
   have HN : Hid (tw1 s.data.toList = none) := Lib.hid (by unfold tw1; rw [if_pos (Or.inl (List.eq_nil_of_length_eq_zero (by simpa using h0)))])
   clear hp hB hx hs h0
   go_enter Tryz.func112, Tryz.ntmps112
   go_wp2_with (fail)
   go_ret
   rw [HN.out]
   exact TQ.no Tur.refl
 · have h1 : s.toList.isEmpty = false := by simpa using full_of h0
   have HH := Lib.hid (has_any s 32 w)
   cases hq : decide ((32 : UInt8) ∈ s.data.toList)
   · have HN : Hid (tw1 s.data.toList = some s.data.toList) := Lib.hid (by
      unfold tw1
      rw [if_neg]
      rintro (e | e)
      · exact full_of h0 (by rw [ByteArray.toList_eq]; exact e)
      · exact of_decide_eq_false hq e)
     rw [hq] at HH
     have HC := Lib.hid (fun w => clone_any s w hs)
     have HP := Lib.hid hp; have HB := Lib.hid hB; have HX := Lib.hid hx
     clear hp hB hx hs h0 hq
     go_enter Tryz.func112, Tryz.ntmps112
     go_wp2_with (fail)
     refine HH.out.mono ?_
     rintro e w' ⟨rfl, rfl⟩
     go_wp2_with (fail)
     have k0 := fun r : Over w => over_cell r HP.out
     refine wp_over_tail 4 (by kernel_rfl) (by kernel_rfl) ?_
     simp only [List.take_succ_cons, List.take_zero, List.drop_succ_cons, List.drop_zero]
     repeat (go_big_quiet_step (first | fail | exact over_make _ (HC.out _)))
     refine wpQuiet_nil ?_
     rintro w2 ⟨⟨w2, hb⟩, rfl⟩
     have hB2 := HB.out.next hb
     have c0 := hB2.c i u HX.out
     have f0 := hB2.f i u HX.out
     have HT2 := Lib.hid ((Below.tur (b := b) hb).setCell i (.string s))
     have HB2 := Lib.hid (hB2.set i (.string s))
     clear hB2 hb k0
     go_wp2_with (fail)
     clear c0 f0
     go_ret
     rw [HN.out]
     show TQ (some (xs.set i (.string (tx s.data.toList)))) _ _ _ _
     rw [tx_of]
     exact TQ.yes HT2.out HB2.out
   · have HN : Hid (tw1 s.data.toList = none) := Lib.hid (by unfold tw1; rw [if_pos (Or.inr (of_decide_eq_true hq))])
     rw [hq] at HH
     clear hp hB hx hs h0 hq
     go_enter Tryz.func112, Tryz.ntmps112
     go_wp2_with (fail)
     refine HH.out.mono ?_
     rintro e w' ⟨rfl, rfl⟩
     go_wp2_with (fail)
     go_ret
     rw [HN.out]
     exact TQ.no Tur.refl
def TEQ (o : Option (List No)) (b i : Nat) (xs : List Value) (w : World) (e : Ending) (w' : World) : Prop :=
 ∃ ok, e = .returned (.bool ok) ∧ Tur b w w' ∧ (o = none → ok = false) ∧ (∀ l, o = some l → ok = true ∧ ∃ A c, Blk w' b (xs.set i (.slice A l.length c)) ∧ Nds w' A l ∧ l.length ≤ c ∧ ∀ a, A = some a → b < a.block)
theorem TEQ.no {b i : Nat} {xs : List Value} {w w' : World} (h : Tur b w w') : TEQ none b i xs w (.returned (.bool false)) w' := ⟨false, rfl, h, fun _ => rfl, fun _ e => by cases e⟩
theorem own_lo {w : World} {base size n c : Nat} {e : TypeId} {A : Option Addr} {xs : List Value} (h : w.ownsRow base e size (.slice A n c) n xs) (a : Addr) (ha : A = some a) : base ≤ a.block := by
 rcases h.2 with ⟨h1, _⟩ | ⟨g, cap, cur, h1, h2, _⟩
 · injection h1 with h1; rw [h1] at ha; cases ha
 · injection h1 with h1; rw [h1] at ha; injection ha with ha; rw [← ha]; exact h2
theorem nds_tur {b : Nat} {w w' : World} {A : Option Addr} {l : List No} (h : Nds w A l) (k : Tur b w w') (hne : ∀ a, A = some a → a.block ≠ b) : Nds w' A l := fun hn => by
 obtain ⟨B, O, e, hc⟩ := h hn
 exact ⟨B, O, e, fun i j v hi hv => (k.cell (p := ⟨B, O + i * 6 + j, none⟩) (show B ≠ b from hne _ e) (block_lt_of_cell (hc i j v hi hv))).trans (hc i j v hi hv)⟩
set_option maxHeartbeats 4000000 in
set_option maxRecDepth 100000 in
theorem texpr_any (b i p : Nat) (xs : List Value) (u : Value) (s : ByteArray) (w : World) (hp : w.cell? ⟨p, 0, none⟩ = some (.pointer (some ⟨b, i, none⟩))) (hB : Blk w b xs) (hx : xs[i]? = some u) (hk : KM w) (ht : Tab w) :
 Calls Tryz.prog 117 #[.string s, .pointer (some ⟨p, 0, none⟩)] w (TEQ (te s.data.toList) b i xs w) := by
 obtain ⟨q, hq⟩ : ∃ q, ps s.data.toList = q := ⟨_, rfl⟩
 have HP : Hid (Calls Tryz.prog 118 #[.string s] w (PP q w)) := Lib.hid (by rw [← hq]; exact eparse_any s w hk)
 have HQ := Lib.hid hq
 have HPC := Lib.hid hp; have HB := Lib.hid hB; have HX := Lib.hid hx; have HK := Lib.hid hk; have HT := Lib.hid ht
 clear hp hB hx hk ht hq
 obtain ⟨l, z, k⟩ := q
 go_enter Tryz.func117, Tryz.ntmps117
 go_wp2_with (fail)
 refine HP.out.mono ?_
 rintro e w1 ⟨A, c, rfl, ho, hb⟩
 dsimp only at ho ⊢
 have HT1 := Lib.hid (Below.tur (b := b) hb)
 have HK1 := Lib.hid (HK.out.next hb)
 have HTb1 := Lib.hid (HT.out.next hb)
 have HN1 := Lib.hid (Nds.of_own ho)
 have HCAP := Lib.hid (own_cap ho)
 have HB1 := Lib.hid (HB.out.next hb)
 have HPC1 := Lib.hid ((hb.cell (p := ⟨p, 0, none⟩) (block_lt_of_cell HPC.out)).trans HPC.out)
 have HAne : Hid (∀ a, A = some a → b < a.block) := Lib.hid (fun a ha => by have := own_lo ho a ha; have := HB.out.lt; omega)
 clear hb ho HP
 by_cases hk0 : k = 0
 · subst hk0
   obtain ⟨hp0, hr⟩ := ps_ok HQ.out
   subst hp0
   have hl4 := (Rt_in hr).1
   have HC := Lib.hid (ewrite_any l A c _ HN1.out HK1.out HTb1.out HCAP.out.1 (by omega))
   have HE : Hid (te s.data.toList = if wq l = (s.data.toList, 0) then some l else none) := Lib.hid (by
    unfold te; rw [HQ.out]; simp only [true_and])
   clear HQ hl4
   have fin : ∀ (w2 : World), Below w1.heap.size w1 w2 → Blk w2 b xs ∧ w2.cell? ⟨p, 0, none⟩ = some (.pointer (some ⟨b, i, none⟩)) ∧ w2.cell? ⟨b, i, none⟩ = some u ∧ w2.frozen? ⟨b, i, none⟩ = false ∧ Tur b w (w2.setCell ⟨b, i, none⟩ (.slice A l.length c)) ∧ Blk (w2.setCell ⟨b, i, none⟩ (.slice A l.length c)) b (xs.set i (.slice A l.length c)) ∧ Nds (w2.setCell ⟨b, i, none⟩ (.slice A l.length c)) A l := fun w2 hb => by
    have h1 := HB1.out.next hb
    refine ⟨h1, (hb.cell (p := ⟨p, 0, none⟩) (block_lt_of_cell HPC1.out)).trans HPC1.out, h1.c i u HX.out, h1.f i u HX.out, (HT1.out.trans (Below.tur hb)).setCell i _, h1.set i _, ?_⟩
    exact nds_tur (b := b) (HN1.out.next hb) (Tur.refl.setCell i _) (fun a ha => Nat.ne_of_gt (HAne.out a ha))
   have FIN := Lib.hid fin
   clear fin
   rcases wq_cases l with ⟨_, hr2⟩ | ⟨hq, _⟩ | ⟨hq, _, hs⟩
   · rw [hr] at hr2; cases hr2
   · rw [hq] at HC
     have HN : Hid (te s.data.toList = none) := Lib.hid (by rw [HE.out, hq, if_neg]; intro e; injection e with _ e; cases e)
     clear hq hr HE
     go_wp2_with (fail)
     refine HC.out.mono ?_
     rintro e w2 ⟨rfl, hb⟩
     obtain ⟨_, c0, c1, f1, ht2, _, _⟩ := FIN.out _ hb
     have HT2 := Lib.hid ht2
     clear hb ht2
     go_wp2_with (fail)
     go_ret
     rw [HN.out]
     exact TEQ.no HT2.out
   · rw [hq] at HC
     by_cases hw : wt 25 l = s.data.toList
     · have HS : Hid (te s.data.toList = some l) := Lib.hid (by rw [HE.out, hq, if_pos (by rw [hw])])
       have hws : (tx (wt 25 l)) = s := by rw [hw, tx_of]
       rw [hws] at HC
       clear hq hr HE hw hws hs
       go_wp2_with (fail)
       refine HC.out.mono ?_
       rintro e w2 ⟨rfl, hb⟩
       obtain ⟨_, c0, c1, f1, ht2, hb2, hn2⟩ := FIN.out _ hb
       have HT2 := Lib.hid ht2; have HB2 := Lib.hid hb2; have HN2 := Lib.hid hn2
       clear hb ht2 hb2 hn2
       go_wp2_with (fail)
       go_ret
       rw [HS.out]
       exact ⟨true, rfl, HT2.out, (fun e => by cases e), fun l' e => by injection e with e; subst e; exact ⟨rfl, A, c, HB2.out, HN2.out, HCAP.out.1, HAne.out⟩⟩
     · have HN : Hid (te s.data.toList = none) := Lib.hid (by rw [HE.out, hq, if_neg]; intro e; injection e with e _; exact hw e)
       have hne : ((tx (wt 25 l)).toList == s.toList) = false := beq_eq_false_iff_ne.2 (by rw [ByteArray.toList_eq, ByteArray.toList_eq, tx_list]; exact hw)
       clear hq hr HE hw hs
       generalize tx (wt 25 l) = tw at *
       go_wp2_with (fail)
       refine HC.out.mono ?_
       rintro e w2 ⟨rfl, hb⟩
       obtain ⟨_, c0, c1, f1, ht2, _, _⟩ := FIN.out _ hb
       have HT2 := Lib.hid ht2
       clear hb ht2
       go_wp2_with (fail)
       go_ret
       rw [HN.out]
       exact TEQ.no HT2.out
 · have HN : Hid (te s.data.toList = none) := Lib.hid (by unfold te; rw [if_neg]; rw [HQ.out]; exact fun h => hk0 h.1)
   have hne : ((k : Int) == 0) = false := beq_eq_false_iff_ne.2 (by omega)
   clear HQ
   go_wp2_with (fail)
   go_ret
   rw [HN.out]
   exact TEQ.no HT1.out
end Go.Proofs.YtimllihegnokeaaGreatDoor.Jo
namespace Go.Proofs.YtimllihegnokeaaGreatDoor.Jo
open Go.ChangeShapes Go.WideShapes Go.ChangeAt Go.RowKit Go.Maps Ov Va Ex
def ans (q : Bool) : List UInt8 := if q then yesL else noL
theorem ty_ans (q : Bool) : ty (ans q) = some q := by cases q <;> rfl
theorem ty_none {s : List UInt8} (h : ∀ q, ans q ≠ s) : ty s = none := by
 unfold ty
 rw [if_neg (fun e => h true e.symm), if_neg (fun e => h false e.symm)]
theorem key_bool {key : Value} {kl : Lit} (h : keyOf Tryz.prog 4 key = some kl) : ∃ x, key = .bool x ∧ kl = .bool x := by
 cases key <;> simp [keyOf, mapKey, Tryz.underlying4] at h
 subst h
 exact ⟨_, rfl, rfl⟩
theorem ansR_agg {v : Value} {y : DataW Unit × List MemPlace} (h : ansR v = some y) : ∃ c : ByteArray, v = .agg #[.string c] := by
 unfold ansR at h
 split at h
 · rename_i a
   split at h
   · rename_i s hs
     exact ⟨s, by rw [show a = #[.string s] by rw [← Array.toList_inj]; exact hs]⟩
   · cases h
 · cases h
theorem ans_at (q : Bool) : ansD.atKey (.bool q) (.lit (.string [])) = .lit (.string (ans q)) := by cases q <;> rfl
theorem Tur.grown {b : Nat} {a w w' : World} {row : Option Nat} (h : Tur b a w) (hg : w.grownBy w' row) (hr : ∀ k, row = some k → a.heap.size ≤ k) : Tur b a w' :=
 ⟨hg.os.trans h.os, hg.tape.trans h.tape, hg.output.trans h.output, Nat.le_trans h.size hg.size, fun k hk hb => (hg.block k (Nat.lt_of_lt_of_le hk h.size) (fun e => by have := hr k e.symm; omega)).trans (h.block k hk hb)⟩
theorem blk_grown {w w' : World} {b : Nat} {xs : List Value} {row : Option Nat} (h : Blk w b xs) (hg : w.grownBy w' row) (hne : some b ≠ row) : Blk w' b xs :=
 ⟨fun i v e => (World.cell?_of_block (a := ⟨b, i, none⟩) (hg.block _ h.lt hne)).trans (h.c i v e), fun i v e => (World.frozen?_of_block (a := ⟨b, i, none⟩) (hg.block _ h.lt hne)).trans (h.f i v e), Nat.lt_of_lt_of_le h.lt hg.size⟩
theorem cell_grown {w w' : World} {a : Addr} {v : Value} {row : Option Nat} (h : w.cell? a = some v) (hg : w.grownBy w' row) (hne : some a.block ≠ row) : w'.cell? a = some v :=
 (World.cell?_of_block (hg.block _ (block_lt_of_cell h) hne)).trans h
set_option maxHeartbeats 4000000 in
set_option maxRecDepth 100000 in
theorem tans_any (b i p : Nat) (xs : List Value) (u : Value) (s : ByteArray) (w : World) (hp : w.cell? ⟨p, 0, none⟩ = some (.pointer (some ⟨b, i, none⟩))) (hB : Blk w b xs) (hx : xs[i]? = some u) :
 Calls Tryz.prog 119 #[.string s, .pointer (some ⟨p, 0, none⟩)] w (TQ ((ty s.data.toList).map fun x => xs.set i (.bool x)) b w) := by
 have HPC := Lib.hid hp; have HB := Lib.hid hB; have HX := Lib.hid hx
 clear hp hB hx
 go_enter Tryz.func119, Tryz.ntmps119
 go_wp2_with (fail)
 refine (answers_any _).mono ?_
 rintro e w1 ⟨bm, rfl, ha, hb⟩
 have HT1 := Lib.hid (Below.tur (b := b) hb)
 have HB1 := Lib.hid (HB.out.next hb)
 have HPC1 := Lib.hid ((hb.cell (p := ⟨p, 0, none⟩) (block_lt_of_cell HPC.out)).trans HPC.out)
 have hsz := hb.size
 have HSZ := Lib.hid hsz
 clear hb hsz
 go_wp2_with (first
  | (at_range; refine wpList_range_own _ rfl _ 75 rfl 4 74 lawB Tryz.underlying75 _ bm _ _ rfl ha ?_; intro w2 hrg0 hg0 hs0)
  | fail)
 go_frame
 have HRG0 := Lib.hid hrg0
 have HB2 := Lib.hid (blk_grown HB1.out hg0 (by simp))
 have HPC2 := Lib.hid (cell_grown HPC1.out hg0 (by simp))
 have HT2 := Lib.hid (Tur.grown HT1.out hg0 (fun k e => by cases e))
 have hbr : b < w.heap.size := HB.out.lt
 have hpr : p < w.heap.size := block_lt_of_cell HPC.out
 have HNB : Hid (b ≠ w1.heap.size ∧ p ≠ w1.heap.size ∧ w.heap.size ≤ w1.heap.size) := Lib.hid (by have := HSZ.out; omega)
 generalize w1.heap.size = r at *
 clear hrg0 hg0 hs0 HB1 HT1 HPC1 HB HPC hbr hpr ha
 go_loopw [8] (fun _ wr => ∃ (left : Lit → Bool) (cnt : Nat), wr.ranges Tryz.prog 4 ansR bm r 2 ansD left cnt ∧ (∀ q, left (.bool q) = false → ans q ≠ s.data.toList) ∧ Blk wr b xs ∧ Tur b w wr ∧ wr.cell? ⟨p, 0, none⟩ = some (.pointer (some ⟨b, i, none⟩))) (fun _ wr => wr.rangeLeft bm r)
 case atStart => exact ⟨_, _, HRG0.out, fun q h => by cases q <;> exact absurd h (by decide), HB2.out, HT2.out, HPC2.out⟩
 case round =>
  obtain ⟨left, cnt, hrg, hq, hbk, htu, hpc⟩ := hrel
  have HRG := Lib.hid hrg; have HQ := Lib.hid hq; have HBK := Lib.hid hbk; have HTU := Lib.hid htu; have HPK := Lib.hid hpc
  clear hq hbk htu hpc
  go_wp2_with (first
   | (at_next; refine wpList_next_ranges _ rfl _ rfl 4 lawB ansR Value.bool (fun x : ByteArray => .agg #[.string x]) (fun key kl hk => by obtain ⟨x, hx, _⟩ := key_bool hk; exact ⟨x, hx⟩) (fun v y hv => ansR_agg hv) bm r 2 _ _ _ rfl hrg ?_ ?_)
   | fail)
  · intro hc0 hl0
    have HN : Hid (ty s.data.toList = none) := Lib.hid (ty_none fun q => HQ.out q (hl0 _))
    clear hrg hc0 hl0
    go_wp2_with (fail)
    go_ret
    rw [HN.out]
    exact TQ.no HTU.out
  · refine ⟨?_, ?_⟩
    · intro c kl yd yp w3 cnt3 hkey hlk hv hat hrg3 hlt hg3 hs3 hen
      obtain ⟨x', ex, rfl⟩ := key_bool hkey
      injection ex with ex
      subst ex
      have hy := (hat (.lit (.string []))).symm.trans (ans_at false)
      subst hy
      have hcv := ansR_inv hv
      injection hcv with hcv
      have hcv2 : c = tx (ans false) := by
       have := congrArg Array.toList hcv
       injection this with this
       injection this
      subst hcv2
      obtain ⟨C, hC⟩ : ∃ C, tx (ans false) = C := ⟨_, rfl⟩
      rw [hC] at hen
      have HC := Lib.hid hC
      have HBK3 := Lib.hid (blk_grown HBK.out hg3 (fun e => HNB.out.1 (Option.some.inj e)))
      have HPK3 := Lib.hid (cell_grown HPK.out hg3 (fun e => HNB.out.2.1 (Option.some.inj e)))
      have HTU3 := Lib.hid (Tur.grown HTU.out hg3 (fun k e => by cases e; exact HNB.out.2.2))
      have HRG3 := Lib.hid hrg3; have HLT : Hid (cnt3 < wr.rangeLeft bm r) := Lib.hid (by rw [HRG.out.left_eq]; exact hlt); have HLK := Lib.hid hlk
      rw [hC]
      clear hcv hat hv hkey hrg hg3 hs3 hrg3 hlt hlk HBK HPK HTU hC
      go_upto_region 4 with (fail)
      have HB4 := Lib.hid (HBK3.out.old (.cells #[.string C] 74))
      have HP4 : Hid ((w3.alloc (.cells #[.string C] 74)).cell? ⟨p, 0, none⟩ = _) := Lib.hid (((box1 w3 _).cell (p := ⟨p, 0, none⟩) (block_lt_of_cell HPK3.out)).trans HPK3.out)
      have HT4 := Lib.hid (HTU3.out.trans (Below.tur (b := b) (box1 w3 (.cells #[.string C] 74))))
      have HR4 := Lib.hid (HRG3.out.alloc (.cells #[.string C] 74))
      have hm := (Blk.made w3 74 [.string C] rfl).c 0 _ rfl
      change (w3.alloc (.cells #[.string C] 74)).cell? _ = _ at hm
      generalize w3.alloc (.cells #[.string C] 74) = w4 at *
      clear HBK3 HPK3 HTU3 HRG3 hen
      by_cases hs : ans false = s.data.toList
      · have HY : Hid (ty s.data.toList = some false) := Lib.hid (by rw [← hs]; exact ty_ans _)
        have hCs : C = s := by rw [← HC.out, hs, tx_of]
        subst hCs
        have c0 := HP4.out
        have c1 := HB4.out.c i u HX.out
        have f1 := HB4.out.f i u HX.out
        have HT5 := Lib.hid (HT4.out.setCell i (.bool false))
        have HB5 := Lib.hid (HB4.out.set i (.bool false))
        clear HC hs
        go_wp2_with (fail)
        clear hm c0 c1 f1
        go_ret
        rw [HY.out]
        exact TQ.yes HT5.out HB5.out
      · have hne : (C.toList == s.toList) = false := beq_eq_false_iff_ne.2 (by rw [ByteArray.toList_eq, ByteArray.toList_eq, ← HC.out, tx_list]; exact hs)
        have HQ2 : Hid (∀ q, (left (.bool q) && !(Lit.bool q).sameKey (.bool false)) = false → ans q ≠ s.data.toList) := Lib.hid (fun q h => by
         rw [Bool.and_eq_false_iff] at h
         rcases h with h | h
         · exact HQ.out q h
         · cases q
           · exact hs
           · exact absurd h (by decide))
        clear hs HC
        go_wp2_with (fail)
        clear hm
        go_roundw
        case rel => exact ⟨_, cnt3, HR4.out, HQ2.out, HB4.out, HT4.out, HP4.out⟩
        case measure => rw [HR4.out.left_eq]; exact HLT.out
    · intro c kl yd yp w3 cnt3 hkey hlk hv hat hrg3 hlt hg3 hs3 hen
      obtain ⟨x', ex, rfl⟩ := key_bool hkey
      injection ex with ex
      subst ex
      have hy := (hat (.lit (.string []))).symm.trans (ans_at true)
      subst hy
      have hcv := ansR_inv hv
      injection hcv with hcv
      have hcv2 : c = tx (ans true) := by
       have := congrArg Array.toList hcv
       injection this with this
       injection this
      subst hcv2
      obtain ⟨C, hC⟩ : ∃ C, tx (ans true) = C := ⟨_, rfl⟩
      rw [hC] at hen
      have HC := Lib.hid hC
      have HBK3 := Lib.hid (blk_grown HBK.out hg3 (fun e => HNB.out.1 (Option.some.inj e)))
      have HPK3 := Lib.hid (cell_grown HPK.out hg3 (fun e => HNB.out.2.1 (Option.some.inj e)))
      have HTU3 := Lib.hid (Tur.grown HTU.out hg3 (fun k e => by cases e; exact HNB.out.2.2))
      have HRG3 := Lib.hid hrg3; have HLT : Hid (cnt3 < wr.rangeLeft bm r) := Lib.hid (by rw [HRG.out.left_eq]; exact hlt); have HLK := Lib.hid hlk
      rw [hC]
      clear hcv hat hv hkey hrg hg3 hs3 hrg3 hlt hlk HBK HPK HTU hC
      go_upto_region 4 with (fail)
      have HB4 := Lib.hid (HBK3.out.old (.cells #[.string C] 74))
      have HP4 : Hid ((w3.alloc (.cells #[.string C] 74)).cell? ⟨p, 0, none⟩ = _) := Lib.hid (((box1 w3 _).cell (p := ⟨p, 0, none⟩) (block_lt_of_cell HPK3.out)).trans HPK3.out)
      have HT4 := Lib.hid (HTU3.out.trans (Below.tur (b := b) (box1 w3 (.cells #[.string C] 74))))
      have HR4 := Lib.hid (HRG3.out.alloc (.cells #[.string C] 74))
      have hm := (Blk.made w3 74 [.string C] rfl).c 0 _ rfl
      change (w3.alloc (.cells #[.string C] 74)).cell? _ = _ at hm
      generalize w3.alloc (.cells #[.string C] 74) = w4 at *
      clear HBK3 HPK3 HTU3 HRG3 hen
      by_cases hs : ans true = s.data.toList
      · have HY : Hid (ty s.data.toList = some true) := Lib.hid (by rw [← hs]; exact ty_ans _)
        have hCs : C = s := by rw [← HC.out, hs, tx_of]
        subst hCs
        have c0 := HP4.out
        have c1 := HB4.out.c i u HX.out
        have f1 := HB4.out.f i u HX.out
        have HT5 := Lib.hid (HT4.out.setCell i (.bool true))
        have HB5 := Lib.hid (HB4.out.set i (.bool true))
        clear HC hs
        go_wp2_with (fail)
        clear hm c0 c1 f1
        go_ret
        rw [HY.out]
        exact TQ.yes HT5.out HB5.out
      · have hne : (C.toList == s.toList) = false := beq_eq_false_iff_ne.2 (by rw [ByteArray.toList_eq, ByteArray.toList_eq, ← HC.out, tx_list]; exact hs)
        have HQ2 : Hid (∀ q, (left (.bool q) && !(Lit.bool q).sameKey (.bool true)) = false → ans q ≠ s.data.toList) := Lib.hid (fun q h => by
         rw [Bool.and_eq_false_iff] at h
         rcases h with h | h
         · exact HQ.out q h
         · cases q
           · exact absurd h (by decide)
           · exact hs)
        clear hs HC
        go_wp2_with (fail)
        clear hm
        go_roundw
        case rel => exact ⟨_, cnt3, HR4.out, HQ2.out, HB4.out, HT4.out, HP4.out⟩
        case measure => rw [HR4.out.left_eq]; exact HLT.out
end Go.Proofs.YtimllihegnokeaaGreatDoor.Jo
namespace Go.Proofs.YtimllihegnokeaaGreatDoor.Jo
open Go.ChangeShapes Go.WideShapes Go.ChangeAt Go.RowKit Ov Va Ex
def nums : List ByteArray → List Nat → List Value → Option (List Value)
 | x :: ws, i :: is, xs => match dcm x.data.toList with | none => none | some n => nums ws is (xs.set i (.int .i64 n))
 | _, _, xs => some xs
theorem nums_step {ws : List ByteArray} {is : List Nat} {ys : List Value} {k : Nat} (h1 : k < ws.length) (h2 : k < is.length) : nums (ws.drop k) (is.drop k) ys = match dcm ws[k].data.toList with | none => none | some n => nums (ws.drop (k + 1)) (is.drop (k + 1)) (ys.set is[k] (.int .i64 n)) := by
 rw [List.drop_eq_getElem_cons h1, List.drop_eq_getElem_cons h2]; rfl
theorem nums_end {ws : List ByteArray} {is : List Nat} {ys : List Value} {k : Nat} (h1 : ws.length ≤ k) : nums (ws.drop k) (is.drop k) ys = some ys := by
 rw [List.drop_of_length_le h1]; cases is.drop k <;> rfl
theorem wdsB_size (c : UInt8) : ∀ (n : Nat) (s : ByteArray), s.size ≤ n → ∀ x ∈ wdsB c s, x.size ≤ n := by
 intro n
 induction n with
 | zero =>
   intro s hs x hx
   have e : s.data.toList = [] := List.eq_nil_of_length_eq_zero (by simpa using hs)
   rw [wdsB_none (by rw [e]; rfl)] at hx
   rw [List.mem_singleton.1 hx]; exact hs
 | succ n ih =>
   intro s hs x hx
   cases h : cutb c s.data.toList with
   | none => rw [wdsB_none h] at hx; rw [List.mem_singleton.1 hx]; exact hs
   | some q =>
     obtain ⟨a, r⟩ := q
     obtain ⟨es, -⟩ := cutb_some h
     have hl : s.size = a.length + 1 + r.length := by rw [← ByteArray.size_data, ← Array.length_toList, es]; simp; omega
     rw [wdsB_some h] at hx
     rcases List.mem_cons.1 hx with rfl | hx
     · rw [tx_size]; omega
     · have := ih (tx r) (by rw [tx_size]; omega) x hx; omega
theorem nums_tn (s : ByteArray) (i : Nat) (xs : List Value) : (if (wdsB 32 s).length = [i].length then nums (wdsB 32 s) [i] xs else none) = (tn s.data.toList).map fun n => xs.set i (.int .i64 n) := by
 unfold tn
 cases h : cutb 32 s.data.toList with
 | none =>
   rw [wdsB_none h, if_pos (show [s].length = [i].length from rfl)]
   show (match dcm s.data.toList with | none => none | some n => some (xs.set i (.int .i64 n))) = _
   cases dcm s.data.toList <;> rfl
 | some q =>
   obtain ⟨a, r⟩ := q
   have := wdsB_pos 32 (tx r)
   rw [wdsB_some h, if_neg (by simp; intro e; rw [e] at this; exact absurd this (by decide))]; rfl
theorem nums_tn2 (s : ByteArray) (i k : Nat) (xs : List Value) : (if (wdsB 32 s).length = [i, k].length then nums (wdsB 32 s) [i, k] xs else none) = (tn2 s.data.toList).map fun x => (xs.set i (.int .i64 x.1)).set k (.int .i64 x.2) := by
 unfold tn2
 cases h : cutb 32 s.data.toList with
 | none => rw [wdsB_none h, if_neg (by simp)]; rfl
 | some q =>
   obtain ⟨a, r⟩ := q
   simp only
   cases h2 : cutb 32 r with
   | none =>
     rw [wdsB_some h, wdsB_none (s := tx r) (by rw [tx_list]; exact h2), if_pos (show [tx a, tx r].length = [i, k].length from rfl)]
     show (match dcm (tx a).data.toList with | none => none | some n => (match dcm (tx r).data.toList with | none => none | some m => some ((xs.set i (.int .i64 n)).set k (.int .i64 m)))) = _
     rw [tx_list, tx_list]
     cases dcm a with
     | none => rfl
     | some n => cases dcm r <;> rfl
   | some q2 =>
     obtain ⟨a2, r2⟩ := q2
     have := wdsB_pos 32 (tx r2)
     rw [wdsB_some h, wdsB_some (s := tx r) (by rw [tx_list]; exact h2), if_neg (by simp; intro e; rw [e] at this; exact absurd this (by decide))]; rfl
set_option maxHeartbeats 4000000 in
set_option maxRecDepth 100000 in
theorem tnums_any (b p q c : Nat) (is : List Nat) (xs : List Value) (s : ByteArray) (w : World) (hp : w.cell? ⟨p, 0, none⟩ = some (.slice (some ⟨q, 0, none⟩) is.length c)) (hq : ∀ k i, is[k]? = some i → w.cell? ⟨q, k, none⟩ = some (.pointer (some ⟨b, i, none⟩)))
 (hB : Blk w b xs) (hx : ∀ i ∈ is, i < xs.length) (hpb : p ≠ b) (hqb : q ≠ b) (hi : is.length ≤ 2) (hs : s.size ≤ 4096) :
 Calls Tryz.prog 114 #[.string s, .pointer (some ⟨p, 0, none⟩)] w (TQ (if (wdsB 32 s).length = is.length then nums (wdsB 32 s) is xs else none) b w) := by
 have HSP := Lib.hid (split_any s 32 w (by omega))
 have HWS : Hid (∀ x ∈ wdsB 32 s, x.size ≤ 4096) := Lib.hid (fun x hx => by have := wdsB_size 32 s.size s (Nat.le_refl _) x hx; omega)
 generalize wdsB 32 s = ws at *
 obtain ⟨R, hR⟩ : ∃ R, (if ws.length = is.length then nums ws is xs else none) = R := ⟨_, rfl⟩
 rw [hR]
 have HR := Lib.hid hR; clear hR
 have HP := Lib.hid hp; have HQ := Lib.hid hq; have HB := Lib.hid hB; have HX := Lib.hid hx
 clear hp hq hB hx hs
 go_enter Tryz.func114, Tryz.ntmps114
 go_wp2_with (fail)
 refine HSP.out.mono ?_
 rintro e w1 ⟨rfl, hw⟩
 have hb : Below w.heap.size w w1 := by rw [hw]; exact box1 w _
 have HWD : Hid (∀ k x, ws[k]? = some x → w1.cell? ⟨w.heap.size, k, none⟩ = some (.string x)) := Lib.hid (fun k x h => by
  rw [hw]
  exact (Blk.made w 9 (ws.map Value.string) rfl).c k _ (by rw [List.getElem?_map, h]; rfl))
 have HB1 := Lib.hid (HB.out.next hb)
 have HP1 := Lib.hid ((hb.cell (p := ⟨p, 0, none⟩) (block_lt_of_cell HP.out)).trans HP.out)
 have HQ1 : Hid (∀ k i, is[k]? = some i → w1.cell? ⟨q, k, none⟩ = some (.pointer (some ⟨b, i, none⟩))) := Lib.hid (fun k i h => (hb.cell (p := ⟨q, k, none⟩) (block_lt_of_cell (HQ.out k i h))).trans (HQ.out k i h))
 have HT1 := Lib.hid (Below.tur (b := b) hb)
 have hWb : w.heap.size ≠ b := by have := HB.out.lt; omega
 generalize w.heap.size = W at *
 clear hw hb HSP
 by_cases hn : ws.length = is.length
 · have HE : Hid (nums ws is xs = R) := Lib.hid (by rw [← HR.out, if_pos hn])
   clear HR
   have hne : ((ws.length : Int) == (is.length : Int)) = true := beq_iff_eq.2 (by omega)
   have c0 := HP1.out
   go_wp2_with (fail)
   clear c0
   go_loopw [18] (fun I wr => ∃ (k : Nat) (ys : List Value), k ≤ ws.length ∧ I = .int .i64 (k : Int) ∧ nums (ws.drop k) (is.drop k) ys = R ∧ Blk wr b ys ∧ ys.length = xs.length ∧ Tur b w1 wr) (fun I _ => ws.length - (intOf I).toNat)
   case atStart => exact ⟨0, xs, Nat.zero_le _, rfl, HE.out, HB1.out, rfl, Tur.refl⟩
   case round =>
    obtain ⟨k, ys, hk, rfl, he, hbk, hlen, htu⟩ := hrel
    have HEk := Lib.hid he; have HBK := Lib.hid hbk; have HTU := Lib.hid htu; have HLEN := Lib.hid hlen
    clear he hbk htu hlen
    by_cases hlt : k < ws.length
    · have hlt2 : k < is.length := by omega
      obtain ⟨x, hx⟩ : ∃ x, ws[k] = x := ⟨_, rfl⟩
      obtain ⟨i, hi0⟩ : ∃ i, is[k] = i := ⟨_, rfl⟩
      have hst := nums_step (ys := ys) hlt hlt2
      rw [hx, hi0, HEk.out] at hst
      have HST := Lib.hid hst
      have hwx : ws[k]? = some x := by rw [List.getElem?_eq_getElem hlt, hx]
      have hix : is[k]? = some i := by rw [List.getElem?_eq_getElem hlt2, hi0]
      have hxm : x ∈ ws := by rw [← hx]; exact List.getElem_mem hlt
      have him : i < ys.length := by rw [HLEN.out]; exact HX.out i (by rw [← hi0]; exact List.getElem_mem hlt2)
      obtain ⟨u, hu⟩ : ∃ u, ys[i]? = some u := ⟨_, List.getElem?_eq_getElem him⟩
      have HU := Lib.hid hu
      have HD := Lib.hid (fun w => dec_any x (by have := HWS.out x hxm; omega) w)
      have HPr := Lib.hid ((HTU.out.cell (p := ⟨p, 0, none⟩) hpb (block_lt_of_cell HP1.out)).trans HP1.out)
      have HQr := Lib.hid ((HTU.out.cell (p := ⟨q, k, none⟩) hqb (block_lt_of_cell (HQ1.out k i hix))).trans (HQ1.out k i hix))
      have c1 := (HTU.out.cell (p := ⟨W, k, none⟩) hWb (block_lt_of_cell (HWD.out k x hwx))).trans (HWD.out k x hwx)
      clear hst hwx hix hxm him hu hx hi0
      go_wp2_with (fail)
      clear c1
      cases hd : dcm x.data.toList with
      | none =>
        have HN : Hid (none = R) := Lib.hid (by have h := HST.out; rw [hd] at h; exact h.symm)
        rw [dcr_none hd] at HD
        clear hd
        refine (HD.out _).mono ?_
        rintro e w3 ⟨rfl, hb⟩
        have HT3 := Lib.hid (HT1.out.trans (HTU.out.trans (Below.tur (b := b) hb)))
        clear hb
        go_wp2_with (fail)
        go_ret
        rw [← HN.out]
        exact TQ.no HT3.out
      | some n =>
        have HN : Hid (nums (ws.drop (k + 1)) (is.drop (k + 1)) (ys.set i (.int .i64 n)) = R) := Lib.hid (by have h := HST.out; rw [hd] at h; exact h.symm)
        rw [dcr_some hd] at HD
        clear hd
        refine (HD.out _).mono ?_
        rintro e w3 ⟨rfl, hb⟩
        have hB3 := HBK.out.next hb
        have HTU3 := Lib.hid ((HTU.out.trans (Below.tur (b := b) hb)).setCell i (.int .i64 n))
        have HB3 := Lib.hid (hB3.set i (.int .i64 n))
        have c2 := hB3.c i u HU.out
        have f2 := hB3.f i u HU.out
        have c3 := (hb.cell (p := ⟨p, 0, none⟩) (block_lt_of_cell HPr.out)).trans HPr.out
        have c4 := (hb.cell (p := ⟨q, k, none⟩) (block_lt_of_cell HQr.out)).trans HQr.out
        clear hb hB3
        go_wp2_with (fail)
        clear c2 f2 c3 c4
        go_roundw
        case rel => exact ⟨k + 1, ys.set i (.int .i64 n), by omega, by go_num, HN.out, HB3.out, by rw [List.length_set]; exact HLEN.out, HTU3.out⟩
        case measure => simp [intOf]; omega
    · obtain rfl : k = ws.length := by omega
      have HN : Hid (some ys = R) := Lib.hid (by rw [← HEk.out, nums_end (Nat.le_refl _)])
      go_wp2_with (fail)
      go_ret
      rw [← HN.out]
      exact TQ.yes (HT1.out.trans HTU.out) HBK.out
 · have HE : Hid (none = R) := Lib.hid (by rw [← HR.out, if_neg hn])
   clear HR
   have hne : ((ws.length : Int) == (is.length : Int)) = false := beq_eq_false_iff_ne.2 (by omega)
   have c0 := HP1.out
   go_wp2_with (fail)
   go_ret
   rw [← HE.out]
   exact TQ.no HT1.out
end Go.Proofs.YtimllihegnokeaaGreatDoor.Jo
namespace Go.Proofs.YtimllihegnokeaaGreatDoor.Jo
open Ov Va Ex Ev
abbrev Slt := List (List UInt8 × Tk) × Bool
def cs (x : Slt) (s : List UInt8) (j : Jb) : Nat × Int × Jb :=
 match cutb 10 s with
 | none => (0, 2, j)
 | some q => match x.1.find? (fun l => l.1 == (w12 q.1).1) with
   | some l => (match tk l.2 (w12 q.1).2 j with | some j' => (q.1.length + 1, 0, j') | none => (0, 6, j))
   | none => if x.2 = true then (0, 0, j) else (0, 10, j)
theorem cs_ok {x : Slt} {s : List UInt8} {j j' : Jb} {n : Nat} (h : cs x s j = (n, 0, j')) :
 (∃ l ∈ x.1, ∃ d, s = ln l.1 d ++ s.drop n ∧ tk l.2 d j = some j' ∧ n ≤ s.length) ∨ (x.2 = true ∧ n = 0 ∧ j' = j) := by
 unfold cs at h
 split at h
 · injection h with _ h; injection h with h _; cases h
 rename_i q hq
 obtain ⟨a, r⟩ := q
 obtain ⟨es, -⟩ := cutb_some hq
 split at h
 · rename_i l hl
   split at h
   · rename_i j1 hj
     injection h with h1 h; injection h with _ h2
     subst h2
     left
     have hd : (w12 a).2 ≠ [] := fun e => by simp only at hj; rw [e, tk_nil] at hj; cases hj
     have hw := w12_ok hd
     have hl1 : l.1 = (w12 a).1 := by have := List.find?_some hl; simpa using this
     refine ⟨l, List.mem_of_find?_eq_some hl, (w12 a).2, ?_, hj, ?_⟩
     · rw [← h1, es]
       simp only
       have e2 : (a ++ 10 :: r).drop (a.length + 1) = r := by simp [List.drop_append]
       rw [e2]
       unfold ln
       rw [hl1, ← hw]
       simp
     · rw [← h1, es]; simp
   · injection h with _ h; injection h with h _; cases h
 · split at h
   · rename_i hb
     injection h with h1 h; injection h with _ h2
     exact Or.inr ⟨hb, h1.symm, h2.symm⟩
   · injection h with _ h; injection h with h _; cases h
theorem cs_len (x : Slt) (s : List UInt8) (j : Jb) : (cs x s j).1 ≤ s.length := by
 unfold cs
 split
 · exact Nat.zero_le _
 rename_i q hq
 obtain ⟨a, r⟩ := q
 obtain ⟨es, -⟩ := cutb_some hq
 split
 · split
   · rw [es]; simp
   · exact Nat.zero_le _
 · split <;> exact Nat.zero_le _
theorem cs_line {x : Slt} {w d r : List UInt8} {T : Tk} {j j' : Jb} (hw : (32 : UInt8) ∉ w) (hw2 : (10 : UInt8) ∉ w) (hd : (10 : UInt8) ∉ d) (hf : x.1.find? (fun l => l.1 == w) = some (w, T)) (ht : tk T d j = some j') :
 cs x (ln w d ++ r) j = ((ln w d).length, 0, j') := by
 have e : ln w d ++ r = (w ++ 32 :: d) ++ 10 :: r := by unfold ln; simp
 have hn : (10 : UInt8) ∉ w ++ 32 :: d := by simp; exact ⟨hw2, hd⟩
 unfold cs
 rw [e, cutb_app _ _ hn]
 simp only
 rw [w12_app hw]
 simp only
 rw [hf]
 simp only
 rw [ht]
 unfold ln
 simp
 omega
theorem cs_bare {x : Slt} {w d r : List UInt8} {j : Jb} (hw : (32 : UInt8) ∉ w) (hw2 : (10 : UInt8) ∉ w) (hd : (10 : UInt8) ∉ d) (hf : x.1.find? (fun l => l.1 == w) = none) (hb : x.2 = true) :
 cs x (ln w d ++ r) j = (0, 0, j) := by
 have e : ln w d ++ r = (w ++ 32 :: d) ++ 10 :: r := by unfold ln; simp
 have hn : (10 : UInt8) ∉ w ++ 32 :: d := by simp; exact ⟨hw2, hd⟩
 unfold cs
 rw [e, cutb_app _ _ hn]
 simp only
 rw [w12_app hw]
 simp only
 rw [hf]
 simp only
 rw [if_pos hb]
def kJob : List UInt8 := [106, 111, 98]
def kTasks : List UInt8 := [116, 97, 115, 107, 115]
def kParts : List UInt8 := [112, 97, 114, 116, 115]
def kCode : List UInt8 := [99, 111, 100, 101]
def kFuel : List UInt8 := [102, 117, 101, 108]
def kMap : List UInt8 := [109, 97, 112]
def kBy : List UInt8 := [98, 121]
def kFold : List UInt8 := [102, 111, 108, 100]
def kReduce : List UInt8 := [114, 101, 100, 117, 99, 101]
def kComb : List UInt8 := [99, 111, 109, 98, 105, 110, 101]
def sls : List Slt := [([(kJob, .nm)], false), ([(kTasks, .t)], false), ([(kParts, .p)], false), ([(kCode, .kn)], false), ([(kFuel, .f)], false), ([(kMap, .m)], false), ([(kBy, .b)], true), ([(kFold, .fd), (kReduce, .r)], false), ([(kComb, .cb)], false)]
def j0 : Jb := ⟨[], 0, 0, 0, 0, 0, [], [], [], [], false⟩
def pgo : List Slt → List UInt8 → Nat → Jb → Jb × Nat × Int
 | [], s, at_, j => if s ≠ [] then (j0, at_, 10) else if jr j ≠ 0 then (j0, 0, jr j) else (j, 0, 0)
 | x :: xs, s, at_, j => if (cs x s j).2.1 ≠ 0 then (j0, at_, (cs x s j).2.1) else pgo xs (s.drop (cs x s j).1) (at_ + (cs x s j).1) (cs x s j).2.2
def pj (s : List UInt8) : Jb × Nat × Int := if 4096 < s.length then (j0, 0, 3) else pgo sls s 0 j0
theorem pgo_bad : ∀ (xs : List Slt) (s : List UInt8) (at_ : Nat) (j : Jb), (pgo xs s at_ j).2.2 ≠ 0 → (pgo xs s at_ j).1 = j0 ∧ (pgo xs s at_ j).2.1 ≤ at_ + s.length
 | [], s, at_, j, h => by
   unfold pgo at *
   split at h
   · rename_i h1; rw [if_pos h1]; exact ⟨rfl, by simp⟩
   · rename_i h1
     split at h
     · rename_i h2; rw [if_neg h1, if_pos h2]; exact ⟨rfl, Nat.zero_le _⟩
     · exact absurd rfl h
 | x :: xs, s, at_, j, h => by
   unfold pgo at *
   split at h
   · rename_i h1; rw [if_pos h1]; exact ⟨rfl, by simp⟩
   · rename_i h1
     rw [if_neg h1]
     have := pgo_bad xs _ _ _ h
     refine ⟨this.1, Nat.le_trans this.2 ?_⟩
     have := cs_len x s j
     rw [List.length_drop]; omega
theorem pj_bad {s : List UInt8} (h : (pj s).2.2 ≠ 0) : (pj s).1 = j0 ∧ (pj s).2.1 ≤ s.length := by
 unfold pj at *
 split at h
 · rename_i h1; rw [if_pos h1]; exact ⟨rfl, Nat.zero_le _⟩
 · rename_i h1; rw [if_neg h1]; have := pgo_bad _ _ _ _ h; simpa using this
theorem pgo_one {x : Slt} {xs : List Slt} {s : List UInt8} {at_ a : Nat} {j j' : Jb} (h : pgo (x :: xs) s at_ j = (j', a, 0)) :
 ∃ n j1, cs x s j = (n, 0, j1) ∧ pgo xs (s.drop n) (at_ + n) j1 = (j', a, 0) := by
 unfold pgo at h
 split at h
 · rename_i h1
   injection h with _ h; injection h with _ h; exact absurd h h1
 · rename_i h1
   exact ⟨(cs x s j).1, (cs x s j).2.2, by rw [← Decidable.not_not.1 h1], h⟩
theorem pgo_line {w : List UInt8} {T : Tk} {xs : List Slt} {s : List UInt8} {at_ a : Nat} {j j' : Jb} (h : pgo (([(w, T)], false) :: xs) s at_ j = (j', a, 0)) :
 ∃ d s' at' j1, s = ln w d ++ s' ∧ tk T d j = some j1 ∧ pgo xs s' at' j1 = (j', a, 0) := by
 obtain ⟨n, j1, h1, h2⟩ := pgo_one h
 rcases cs_ok h1 with ⟨l, hl, d, e, ht, -⟩ | ⟨h3, -⟩
 · simp at hl
   subst hl
   exact ⟨d, _, _, j1, e, ht, h2⟩
 · cases h3
theorem omap {α β : Type} {o : Option α} {f : α → β} {b : β} (h : o.map f = some b) : ∃ x, o = some x ∧ f x = b := by
 cases o with
 | none => cases h
 | some x => injection h with h; exact ⟨x, rfl, h⟩
theorem pj_ok {s : List UInt8} {j : Jb} {a : Nat} (h : pj s = (j, a, 0)) : a = 0 ∧ jwq j = (s, 0) := by
 unfold pj at h
 split at h
 · injection h with _ h; injection h with _ h; cases h
 rename_i hlen
 unfold sls at h
 obtain ⟨d1, s1, _, j1, e1, t1, h⟩ := pgo_line h
 obtain ⟨d2, s2, _, j2, e2, t2, h⟩ := pgo_line h
 obtain ⟨d3, s3, _, j3, e3, t3, h⟩ := pgo_line h
 obtain ⟨d4, s4, _, j4, e4, t4, h⟩ := pgo_line h
 obtain ⟨d5, s5, _, j5, e5, t5, h⟩ := pgo_line h
 obtain ⟨d6, s6, _, j6, e6, t6, h⟩ := pgo_line h
 obtain ⟨x1, u1, rfl⟩ := omap t1
 obtain ⟨x2, u2, rfl⟩ := omap t2
 obtain ⟨x3, u3, rfl⟩ := omap t3
 obtain ⟨x4, u4, rfl⟩ := omap t4
 obtain ⟨x5, u5, rfl⟩ := omap t5
 obtain ⟨x6, u6, rfl⟩ := omap t6
 obtain ⟨rfl, -, -⟩ := tw1_some u1
 obtain ⟨m2, rfl, rfl⟩ := tn_some u2
 obtain ⟨m3, rfl, rfl⟩ := tn_some u3
 obtain ⟨m4, m4', rfl, rfl⟩ := tn2_some u4
 obtain ⟨m5, rfl, rfl⟩ := tn_some u5
 have t6 := te_some u6
 clear u1 u2 u3 u4 u5 u6
 obtain ⟨n, j7, h7, h⟩ := pgo_one h
 have fin : ∀ (jj : Jb) (l7 : List UInt8), jj.nm = x1 → jj.t = cl5 m2 → jj.p = cl5 m3 → jj.k = cl5 m4 → jj.n = cl5 m4' → jj.f = cl5 m5 → jj.m = x6 → jj.r = [] → jj.fd = [] → jj.cb = false →
  ((l7 = [] ∧ jj.b = []) ∨ ∃ d, l7 = ln kBy d ∧ wq jj.b = (d, 0)) → ∀ s7 at7, s6 = l7 ++ s7 → pgo [([(kFold, Tk.fd), (kReduce, Tk.r)], false), ([(kComb, Tk.cb)], false)] s7 at7 jj = (j, a, 0) → a = 0 ∧ jwq j = (s, 0) := by
  intro jj l7 q1 q2 q3 q4 q5 q6 q7 q8 q9 q10 h7 s7 at7 e7 h
  obtain ⟨n, j8, h8, h⟩ := pgo_one h
  have fin2 : ∀ (k8 : Jb) (l8 : List UInt8), k8.nm = jj.nm → k8.t = jj.t → k8.p = jj.p → k8.k = jj.k → k8.n = jj.n → k8.f = jj.f → k8.m = jj.m → k8.b = jj.b →
   ((l8 = ln kFold k8.fd ∧ k8.fd ≠ [] ∧ k8.r = []) ∨ ∃ d, l8 = ln kReduce d ∧ wq k8.r = (d, 0) ∧ k8.fd = []) → ∀ s8 at8, s7 = l8 ++ s8 → pgo [([(kComb, Tk.cb)], false)] s8 at8 k8 = (j, a, 0) → a = 0 ∧ jwq j = (s, 0) := by
   intro k8 l8 r1 r2 r3 r4 r5 r6 r7 r8 h8 s8 at8 e8 h
   obtain ⟨d9, s9, _, j9, e9, t9, h⟩ := pgo_line h
   obtain ⟨x9, u9, rfl⟩ := omap t9
   have t9 := ty_some u9
   unfold pgo at h
   split at h
   · injection h with _ h; injection h with _ h; cases h
   rename_i hs9
   split at h
   · rename_i hj; injection h with _ h; injection h with _ h; exact absurd h hj
   rename_i hj
   injection h with h1 h; injection h with h2 _
   have hs9 := Decidable.not_not.1 hs9
   have hj := Decidable.not_not.1 hj
   rw [h1] at hj
   refine ⟨h2.symm, ?_⟩
   have hnum := numOk_in (jr_zero hj).2.1
   have g1 : j.nm = x1 := by rw [← h1]; exact r1.trans q1
   have g2 : j.t = cl5 m2 := by rw [← h1]; exact r2.trans q2
   have g3 : j.p = cl5 m3 := by rw [← h1]; exact r3.trans q3
   have g4 : j.k = cl5 m4 := by rw [← h1]; exact r4.trans q4
   have g5 : j.n = cl5 m4' := by rw [← h1]; exact r5.trans q5
   have g6 : j.f = cl5 m5 := by rw [← h1]; exact r6.trans q6
   have g7 : j.m = x6 := by rw [← h1]; exact r7.trans q7
   have g8 : j.b = jj.b := by rw [← h1]; exact r8
   have g9 : j.cb = x9 := by rw [← h1]
   have g10 : j.fd = k8.fd := by rw [← h1]
   have g11 : j.r = k8.r := by rw [← h1]
   have f2 : j.t = m2 := g2.trans (cl5_in (by omega))
   have f3 : j.p = m3 := g3.trans (cl5_in (by omega))
   have f4 : j.k = m4 := g4.trans (cl5_in (by omega))
   have f5 : j.n = m4' := g5.trans (cl5_in (by omega))
   have f6 : j.f = m5 := g6.trans (cl5_in (by omega))
   rw [← f2] at e2; rw [← f3] at e3; rw [← f4, ← f5] at e4; rw [← f6] at e5
   rw [← g1] at e1; rw [← g7] at t6
   have y5 : s = w5 j ++ s5 := by
    rw [e1, e2, e3, e4, e5]; unfold w5 w4 w3 w2 w1; simp [kJob, kTasks, kParts, kCode, kFuel]
   have y6 : s = w6 j ++ s6 ∧ x6 = x6 := ⟨by rw [y5, e6]; unfold w6; rw [t6]; simp [kMap], rfl⟩
   have z6 : Go.Proofs.YtimllihegnokeaaGreatDoor.Jo.x6 j = 0 := by unfold Go.Proofs.YtimllihegnokeaaGreatDoor.Jo.x6; rw [t6]; rfl
   have y7 : s = w7 j ++ s7 ∧ x7 j = 0 := by
    unfold w7 x7
    rcases h7 with ⟨a1, a2⟩ | ⟨d, a1, a2⟩
    · rw [if_pos (by rw [g8, a2]; rfl), if_pos (by rw [g8, a2]; rfl)]
      exact ⟨by rw [y6.1, e7, a1]; rfl, z6⟩
    · rw [← g8] at a2
      have hne : ¬ j.b.length = 0 := fun e => by
       have hb := List.eq_nil_of_length_eq_zero e
       rw [hb] at a2
       have := (wq_yes2 a2).1
       exact absurd this (by decide)
      rw [if_neg hne, if_neg hne, a2, z6]
      exact ⟨by rw [y6.1, e7, a1]; simp [kBy], rfl⟩
   have y8 : s = w8 j ++ s8 ∧ x8 j = 0 := by
    unfold w8 x8
    rcases h8 with ⟨a1, a2, a3⟩ | ⟨d, a1, a2, a3⟩
    · have hne : ¬ j.fd.isEmpty = true := by rw [g10]; intro e; exact a2 (List.isEmpty_iff.1 e)
      rw [if_neg hne, if_neg hne, g10]
      exact ⟨by rw [y7.1, e8, a1]; simp [kFold], y7.2⟩
    · have hp : j.fd.isEmpty = true := by rw [g10, a3]; rfl
      rw [← g11] at a2
      rw [if_pos hp, if_pos hp, a2, y7.2]
      exact ⟨by rw [y7.1, e8, a1]; simp [kReduce], rfl⟩
   have y9 : s = w9 j := by
    rw [y8.1, e9, hs9, t9, g9.symm]; unfold w9; simp [kComb]
   unfold jwq
   rw [if_neg (by omega), if_pos y8.2, if_neg (by rw [← y9]; omega), ← y9]
  rcases cs_ok h8 with ⟨l, hl, d, e, ht, -⟩ | ⟨h3, -⟩
  · simp at hl
    rcases hl with rfl | rfl
    · obtain ⟨x, hu, rfl⟩ := omap ht
      obtain ⟨rfl, hne, -⟩ := tw1_some hu
      exact fin2 { jj with fd := x } _ rfl rfl rfl rfl rfl rfl rfl rfl (Or.inl ⟨rfl, hne, q8⟩) _ _ e h
    · obtain ⟨x, hu, rfl⟩ := omap ht
      exact fin2 { jj with r := x } _ rfl rfl rfl rfl rfl rfl rfl rfl (Or.inr ⟨d, rfl, te_some hu, q9⟩) _ _ e h
  · cases h3
 rcases cs_ok h7 with ⟨l, hl, d, e, ht, -⟩ | ⟨-, rfl, rfl⟩
 · simp at hl
   subst hl
   obtain ⟨x, hu, rfl⟩ := omap ht
   exact fin _ _ rfl rfl rfl rfl rfl rfl rfl rfl rfl rfl (Or.inr ⟨d, rfl, te_some hu⟩) _ _ e h
 · exact fin _ [] rfl rfl rfl rfl rfl rfl rfl rfl rfl rfl (Or.inl ⟨rfl, rfl⟩) _ _ rfl h
end Go.Proofs.YtimllihegnokeaaGreatDoor.Jo
namespace Go.Proofs.YtimllihegnokeaaGreatDoor.Jo
open Go.ChangeShapes Go.WideShapes Go.ChangeAt Go.RowKit Ov Va Ex
def jcl (j : Jb) (A1 : Option Addr) (c1 : Nat) (A2 : Option Addr) (c2 : Nat) (A3 : Option Addr) (c3 : Nat) : List Value :=
 [.string (tx j.nm), .int .i64 j.t, .int .i64 j.p, .int .i64 j.k, .int .i64 j.n, .int .i64 j.f, .slice A1 j.m.length c1, .slice A2 j.b.length c2, .slice A3 j.r.length c3, .string (tx j.fd), .bool j.cb]
structure Far1 (w : World) (b : Nat) (A : Option Addr) (l : List No) (c : Nat) : Prop where
 n : Nds w A l
 c : l.length ≤ c
 e : ∀ a, A = some a → b < a.block
def JX (w : World) (b : Nat) (j : Jb) : Prop := ∃ A1 c1 A2 c2 A3 c3, Blk w b (jcl j A1 c1 A2 c2 A3 c3) ∧ Far1 w b A1 j.m c1 ∧ Far1 w b A2 j.b c2 ∧ Far1 w b A3 j.r c3
theorem Far1.tur {w w' : World} {b : Nat} {A : Option Addr} {l : List No} {c : Nat} (h : Far1 w b A l c) (k : Tur b w w') : Far1 w' b A l c := ⟨nds_tur h.n k (fun a ha => Nat.ne_of_gt (h.e a ha)), h.c, h.e⟩
theorem Far1.next {w w' : World} {b : Nat} {A : Option Addr} {l : List No} {c : Nat} (h : Far1 w b A l c) (k : Below w.heap.size w w') : Far1 w' b A l c := ⟨h.n.next k, h.c, h.e⟩
theorem JX.next {w w' : World} {b : Nat} {j : Jb} (h : JX w b j) (k : Below w.heap.size w w') : JX w' b j := by
 obtain ⟨A1, c1, A2, c2, A3, c3, h0, h1, h2, h3⟩ := h
 exact ⟨A1, c1, A2, c2, A3, c3, h0.next k, h1.next k, h2.next k, h3.next k⟩
def tfn : Tk → FuncId
 | .nm => 112 | .fd => 112
 | .t => 114 | .p => 114 | .kn => 114 | .f => 114
 | .m => 117 | .b => 117 | .r => 117
 | .cb => 119
def One1 (w : World) (b p i : Nat) : Prop := w.cell? ⟨p, 0, none⟩ = some (.pointer (some ⟨b, i, none⟩)) ∧ p ≠ b
def Num1 (w : World) (b p : Nat) (is : List Nat) : Prop := ∃ q c, w.cell? ⟨p, 0, none⟩ = some (.slice (some ⟨q, 0, none⟩) is.length c) ∧ (∀ k i, is[k]? = some i → w.cell? ⟨q, k, none⟩ = some (.pointer (some ⟨b, i, none⟩))) ∧ q ≠ b ∧ p ≠ b
def TkM (w : World) (b : Nat) : Tk → Nat → Prop
 | .nm, p => One1 w b p 0 | .fd, p => One1 w b p 9
 | .t, p => Num1 w b p [1] | .p, p => Num1 w b p [2] | .kn, p => Num1 w b p [3, 4] | .f, p => Num1 w b p [5]
 | .m, p => One1 w b p 6 | .b, p => One1 w b p 7 | .r, p => One1 w b p 8
 | .cb, p => One1 w b p 10
theorem One1.tur {w w' : World} {b p i : Nat} (h : One1 w b p i) (k : Tur b w w') : One1 w' b p i := ⟨(k.cell (p := ⟨p, 0, none⟩) h.2 (block_lt_of_cell h.1)).trans h.1, h.2⟩
theorem Num1.tur {w w' : World} {b p : Nat} {is : List Nat} (h : Num1 w b p is) (k : Tur b w w') : Num1 w' b p is := by
 obtain ⟨q, c, h1, h2, h3, h4⟩ := h
 exact ⟨q, c, (k.cell (p := ⟨p, 0, none⟩) h4 (block_lt_of_cell h1)).trans h1, fun n i e => (k.cell (p := ⟨q, n, none⟩) h3 (block_lt_of_cell (h2 n i e))).trans (h2 n i e), h3, h4⟩
theorem TkM.tur {w w' : World} {b p : Nat} {T : Tk} (h : TkM w b T p) (k : Tur b w w') : TkM w' b T p := by
 cases T <;> first | exact One1.tur h k | exact Num1.tur h k
def TKQ (o : Option Jb) (b : Nat) (w : World) (e : Ending) (w' : World) : Prop :=
 ∃ ok, e = .returned (.bool ok) ∧ Tur b w w' ∧ (o = none → ok = false) ∧ (∀ j', o = some j' → ok = true ∧ JX w' b j')
theorem TKQ.of {α : Type} {o : Option α} {F : α → List Value} {G : α → Jb} {b : Nat} {w w' : World} {e : Ending} {j : Jb} {A1 A2 A3 : Option Addr} {c1 c2 c3 : Nat} (h : TQ (o.map F) b w e w')
 (h1 : Far1 w b A1 j.m c1) (h2 : Far1 w b A2 j.b c2) (h3 : Far1 w b A3 j.r c3) (hF : ∀ x, F x = jcl (G x) A1 c1 A2 c2 A3 c3) (hm : ∀ x, (G x).m = j.m ∧ (G x).b = j.b ∧ (G x).r = j.r) : TKQ (o.map G) b w e w' := by
 obtain ⟨ok, he, ht, hn, hs⟩ := h
 refine ⟨ok, he, ht, fun e => hn (by cases o with | none => rfl | some x => cases e), fun j' e => ?_⟩
 cases o with
 | none => cases e
 | some x =>
   injection e with e
   subst e
   obtain ⟨g1, g2⟩ := hs _ rfl
   obtain ⟨m1, m2, m3⟩ := hm x
   rw [hF] at g2
   exact ⟨g1, A1, c1, A2, c2, A3, c3, g2, by rw [m1]; exact h1.tur ht, by rw [m2]; exact h2.tur ht, by rw [m3]; exact h3.tur ht⟩
theorem take_any (T : Tk) (j : Jb) (b p : Nat) (s : ByteArray) (w : World) (hM : TkM w b T p) (hJ : JX w b j) (hk : KM w) (ht : Tab w) (hs : s.size ≤ 4096) :
 Calls Tryz.prog (tfn T) #[.string s, .pointer (some ⟨p, 0, none⟩)] w (TKQ (tk T s.data.toList j) b w) := by
 obtain ⟨A1, c1, A2, c2, A3, c3, h0, h1, h2, h3⟩ := hJ
 have hlen : (jcl j A1 c1 A2 c2 A3 c3).length = 11 := rfl
 cases T with
 | nm => exact (tword_any b 0 p _ _ s w hM.1 h0 rfl (by omega)).mono fun _ _ h => TKQ.of h h1 h2 h3 (fun _ => rfl) (fun _ => ⟨rfl, rfl, rfl⟩)
 | fd => exact (tword_any b 9 p _ _ s w hM.1 h0 rfl (by omega)).mono fun _ _ h => TKQ.of h h1 h2 h3 (fun _ => rfl) (fun _ => ⟨rfl, rfl, rfl⟩)
 | cb => exact (tans_any b 10 p _ _ s w hM.1 h0 rfl).mono fun _ _ h => TKQ.of h h1 h2 h3 (fun _ => rfl) (fun _ => ⟨rfl, rfl, rfl⟩)
 | t =>
   obtain ⟨q, c, g1, g2, g3, g4⟩ := hM
   have h := tnums_any b p q c [1] _ s w g1 g2 h0 (by simp [hlen]) g4 g3 (by simp) hs
   rw [nums_tn] at h
   exact h.mono fun _ _ h => TKQ.of h h1 h2 h3 (fun _ => rfl) (fun _ => ⟨rfl, rfl, rfl⟩)
 | p =>
   obtain ⟨q, c, g1, g2, g3, g4⟩ := hM
   have h := tnums_any b p q c [2] _ s w g1 g2 h0 (by simp [hlen]) g4 g3 (by simp) hs
   rw [nums_tn] at h
   exact h.mono fun _ _ h => TKQ.of h h1 h2 h3 (fun _ => rfl) (fun _ => ⟨rfl, rfl, rfl⟩)
 | f =>
   obtain ⟨q, c, g1, g2, g3, g4⟩ := hM
   have h := tnums_any b p q c [5] _ s w g1 g2 h0 (by simp [hlen]) g4 g3 (by simp) hs
   rw [nums_tn] at h
   exact h.mono fun _ _ h => TKQ.of h h1 h2 h3 (fun _ => rfl) (fun _ => ⟨rfl, rfl, rfl⟩)
 | kn =>
   obtain ⟨q, c, g1, g2, g3, g4⟩ := hM
   have h := tnums_any b p q c [3, 4] _ s w g1 g2 h0 (by simp [hlen]) g4 g3 (by simp) hs
   rw [nums_tn2] at h
   exact h.mono fun _ _ h => TKQ.of h h1 h2 h3 (fun _ => rfl) (fun _ => ⟨rfl, rfl, rfl⟩)
 | m =>
   refine (texpr_any b 6 p _ _ s w hM.1 h0 rfl hk ht).mono fun _ _ ⟨ok, he, htu, hn, hy⟩ => ⟨ok, he, htu, fun e => hn ?_, fun j' e => ?_⟩
   · cases h : te s.data.toList with
     | none => rfl
     | some l =>
       have e2 : (te s.data.toList).map (fun x => ({ j with m := x } : Jb)) = none := e
       rw [h] at e2; cases e2
   · obtain ⟨l, hl, rfl⟩ := omap e
     obtain ⟨g1, A, c, g2, g3, g4, g5⟩ := hy l hl
     exact ⟨g1, A, c, A2, c2, A3, c3, g2, ⟨g3, g4, g5⟩, h2.tur htu, h3.tur htu⟩
 | b =>
   refine (texpr_any b 7 p _ _ s w hM.1 h0 rfl hk ht).mono fun _ _ ⟨ok, he, htu, hn, hy⟩ => ⟨ok, he, htu, fun e => hn ?_, fun j' e => ?_⟩
   · cases h : te s.data.toList with
     | none => rfl
     | some l =>
       have e2 : (te s.data.toList).map (fun x => ({ j with b := x } : Jb)) = none := e
       rw [h] at e2; cases e2
   · obtain ⟨l, hl, rfl⟩ := omap e
     obtain ⟨g1, A, c, g2, g3, g4, g5⟩ := hy l hl
     exact ⟨g1, A1, c1, A, c, A3, c3, g2, h1.tur htu, ⟨g3, g4, g5⟩, h3.tur htu⟩
 | r =>
   refine (texpr_any b 8 p _ _ s w hM.1 h0 rfl hk ht).mono fun _ _ ⟨ok, he, htu, hn, hy⟩ => ⟨ok, he, htu, fun e => hn ?_, fun j' e => ?_⟩
   · cases h : te s.data.toList with
     | none => rfl
     | some l =>
       have e2 : (te s.data.toList).map (fun x => ({ j with r := x } : Jb)) = none := e
       rw [h] at e2; cases e2
   · obtain ⟨l, hl, rfl⟩ := omap e
     obtain ⟨g1, A, c, g2, g3, g4, g5⟩ := hy l hl
     exact ⟨g1, A1, c1, A2, c2, A, c, g2, h1.tur htu, h2.tur htu, ⟨g3, g4, g5⟩⟩
def SlM (w : World) (b L : Nat) (ls : List (List UInt8 × Tk)) : Prop :=
 ∀ k l, ls[k]? = some l → ∃ p, w.cell? ⟨L, k * 2, none⟩ = some (.string (tx l.1)) ∧ w.cell? ⟨L, k * 2 + 1, none⟩ = some (.func (.func (tfn l.2)) #[] #[.pointer (some ⟨p, 0, none⟩)]) ∧ TkM w b l.2 p
theorem SlM.tur {w w' : World} {b L : Nat} {ls : List (List UInt8 × Tk)} (h : SlM w b L ls) (k : Tur b w w') (hL : L ≠ b) : SlM w' b L ls := fun n l e => by
 obtain ⟨p, h1, h2, h3⟩ := h n l e
 exact ⟨p, (k.cell (p := ⟨L, n * 2, none⟩) hL (block_lt_of_cell h1)).trans h1, (k.cell (p := ⟨L, n * 2 + 1, none⟩) hL (block_lt_of_cell h2)).trans h2, h3.tur k⟩
def CSQ (r : Nat × Int × Jb) (b : Nat) (w : World) (e : Ending) (w' : World) : Prop := e = .returned (.tuple #[.int .i64 (r.1 : Int), .int .i64 r.2.1]) ∧ Tur b w w' ∧ (r.2.1 = 0 → JX w' b r.2.2)
def cst (ls : List (List UInt8 × Tk)) (bare : Bool) (n : Nat) (f d : List UInt8) (j : Jb) : Nat × Int × Jb :=
 match ls.find? (fun l => l.1 == f) with
 | some l => (match tk l.2 d j with | some j' => (n + 1, 0, j') | none => (0, 6, j))
 | none => if bare = true then (0, 0, j) else (0, 10, j)
theorem cs_some {x : Slt} {s a r : List UInt8} {j : Jb} (h : cutb 10 s = some (a, r)) : cs x s j = cst x.1 x.2 a.length (w12 a).1 (w12 a).2 j := by
 unfold cs cst; rw [h] <;> rfl
theorem cst_yes {ls : List (List UInt8 × Tk)} {bare : Bool} {n k : Nat} {f d : List UInt8} {j j' : Jb} (hk : k < ls.length) (he : ls[k].1 = f) (ht : tk ls[k].2 d j = some j') : cst (ls.drop k) bare n f d j = (n + 1, 0, j') := by
 unfold cst; rw [List.drop_eq_getElem_cons hk, List.find?_cons_of_pos (by simp [he])]; simp only; rw [ht]
theorem cst_no {ls : List (List UInt8 × Tk)} {bare : Bool} {n k : Nat} {f d : List UInt8} {j : Jb} (hk : k < ls.length) (he : ls[k].1 = f) (ht : tk ls[k].2 d j = none) : cst (ls.drop k) bare n f d j = (0, 6, j) := by
 unfold cst; rw [List.drop_eq_getElem_cons hk, List.find?_cons_of_pos (by simp [he])]; simp only; rw [ht]
theorem cst_next {ls : List (List UInt8 × Tk)} {bare : Bool} {n k : Nat} {f d : List UInt8} {j : Jb} (hk : k < ls.length) (he : ls[k].1 ≠ f) : cst (ls.drop k) bare n f d j = cst (ls.drop (k + 1)) bare n f d j := by
 unfold cst; rw [List.drop_eq_getElem_cons hk, List.find?_cons_of_neg (by simp [he])]
theorem cst_end {ls : List (List UInt8 × Tk)} {bare : Bool} {n : Nat} {f d : List UInt8} {j : Jb} : cst (ls.drop ls.length) bare n f d j = if bare = true then (0, 0, j) else (0, 10, j) := by
 rw [List.drop_of_length_le (Nat.le_refl _)]; rfl
theorem cq_w12 (a : List UInt8) : ∃ q, cq 32 a = ((w12 a).1, (w12 a).2, q) := by
 unfold cq w12
 cases cutb 32 a with
 | none => exact ⟨_, rfl⟩
 | some p => exact ⟨_, rfl⟩
theorem store_fn2 {P : Program} (w : World) (t : TypeId) (u v : Value) (n : Nat) (hn : n = w.heap.size) (h1 : v.oneCell' = true) : Sem.run P (store ⟨n, 1, none⟩ v) (w.alloc (.cells #[u, .nilFunc] t)) = .ok () (w.alloc (.cells #[u, v] t)) := by
 subst hn
 have hst := run_store P (w.alloc (.cells #[u, .nilFunc] t)) ⟨w.heap.size, 1, none⟩ v .plain h1
 have hb := Blk.made w t [u, .nilFunc] rfl
 rw [hb.c 1 _ rfl] at hst
 simp only [hb.f 1 _ rfl] at hst
 rw [hst]
 have e := World.setCell_alloc_at (w := w) #[u, .nilFunc] t w.heap.size 1 v rfl
 simp only [Bool.false_eq_true, if_false]
 rw [e]; rfl
theorem tfn_cases (T : Tk) : tfn T = 112 ∨ tfn T = 114 ∨ tfn T = 117 ∨ tfn T = 119 := by
 cases T <;> simp [tfn]
set_option maxHeartbeats 8000000 in
set_option maxRecDepth 100000 in
theorem cutslot_any (x : Slt) (j : Jb) (b L c : Nat) (s : ByteArray) (w : World) (hS : SlM w b L x.1) (hL : L ≠ b) (hJ : JX w b j) (hk : KM w) (ht : Tab w) (hs : s.size ≤ 4096) (hx : x.1.length ≤ 2) :
 Calls Tryz.prog 40 #[.string s, .agg #[.slice (some ⟨L, 0, none⟩) x.1.length c, .bool x.2]] w (CSQ (cs x s.data.toList j) b w) := by
 have HSM := Lib.hid hS; have HJ := Lib.hid hJ; have HK := Lib.hid hk; have HTB := Lib.hid ht; have HLB := Lib.hid hL
 have HBX := Lib.hid (Blk.made w 86 [.slice (some ⟨L, 0, none⟩) x.1.length c, .bool x.2] rfl)
 have HBW := Lib.hid (box1 w (.cells #[.slice (some ⟨L, 0, none⟩) x.1.length c, .bool x.2] 86))
 have HCU := Lib.hid (fun w1 => cut_any s 10 w1 (by omega))
 clear hS hJ hk ht hL
 cases hc : cutb 10 s.data.toList with
 | none =>
   have HR : Hid (cs x s.data.toList j = (0, 2, j)) := Lib.hid (by unfold cs; rw [hc])
   rw [show cq 10 s.data.toList = (s.data.toList, [], false) by unfold cq; rw [hc]] at HCU
   rw [HR.out]
   clear hc HR
   generalize tx (s.data.toList, ([] : List UInt8), false).1 = t1 at *
   generalize tx (s.data.toList, ([] : List UInt8), false).2.1 = t2 at *
   go_enter Tryz.func40, Tryz.ntmps40
   go_wp2_with (fail)
   refine (HCU.out _).mono ?_
   rintro e w2 ⟨rfl, hb⟩
   have HB2 := Lib.hid (Below.next HBW.out hb)
   clear hb
   go_wp2_with (fail)
   exact bodyPost_ret (v := .tuple #[.int .i64 0, .int .i64 2]) (by simp [results, Tryz.results40, go_sem]) rfl ⟨rfl, Below.tur HB2.out, fun e => by cases e⟩
 | some q =>
   obtain ⟨a, r⟩ := q
   obtain ⟨es, -⟩ := cutb_some hc
   have hal : a.length ≤ 4096 := by
    have : s.data.toList.length ≤ 4096 := by simpa using hs
    rw [es] at this; simp at this; omega
   obtain ⟨q2, hq2⟩ := cq_w12 a
   have HCW : Hid (∀ w1, Calls Tryz.prog 76 #[.string (tx a), .string ⟨#[32]⟩] w1 (Gives (.tuple #[.string (tx (w12 a).1), .string (tx (w12 a).2), .bool q2]) w1)) := Lib.hid fun w1 => by
    have h := cut_any (tx a) 32 w1 (by rw [tx_size]; omega)
    rw [tx_list, hq2] at h; exact h
   rw [show cq 10 s.data.toList = (a, r, true) by unfold cq; rw [hc]] at HCU
   have HR : Hid (cst x.1 x.2 a.length (w12 a).1 (w12 a).2 j = cs x s.data.toList j) := Lib.hid (cs_some hc).symm
   have hdl : (w12 a).2.length ≤ 4096 := by
    by_cases h : (w12 a).2 = []
    · rw [h]; exact Nat.zero_le _
    · have := congrArg List.length (w12_ok h); simp at this; omega
   have HDL := Lib.hid hdl
   clear es hc hq2 hdl
   generalize cs x s.data.toList j = R at *
   obtain ⟨⟨f, d⟩, hfd⟩ : ∃ y, w12 a = y := ⟨_, rfl⟩
   rw [hfd] at HCW HR HDL
   simp only at HCW HR HDL
   clear hfd
   have hsz : (tx a).size = a.length := tx_size a
   go_enter Tryz.func40, Tryz.ntmps40
   go_wp2_with (fail)
   refine (HCU.out _).mono ?_
   rintro e w2 ⟨rfl, hb⟩
   have HB2 := Lib.hid (Below.next HBW.out hb)
   have HX2 := Lib.hid (HBX.out.next hb)
   clear hb HBW HBX HCU
   go_wp2_with (fail)
   refine (HCW.out _).mono ?_
   rintro e w3 ⟨rfl, hb⟩
   have HB3 := Lib.hid (Below.next HB2.out hb)
   have HX3 := Lib.hid (HX2.out.next hb)
   clear hb HB2 HX2 HCW
   have HS3 := Lib.hid (HSM.out.tur (Below.tur HB3.out) HLB.out)
   have HJ3 := Lib.hid (HJ.out.next HB3.out)
   have HK3 := Lib.hid (HK.out.next HB3.out)
   have HT3 := Lib.hid (HTB.out.next HB3.out)
   have c0 := HX3.out.c 0 _ rfl
   clear HSM HJ HK HTB
   go_wp2_with (fail)
   clear c0
   go_loopw [31] (fun I wr => ∃ k : Nat, k ≤ x.1.length ∧ I = .int .i64 (k : Int) ∧ cst (x.1.drop k) x.2 a.length f d j = R ∧ Below w3.heap.size w3 wr) (fun I _ => x.1.length - (intOf I).toNat)
   case atStart => exact ⟨0, Nat.zero_le _, rfl, HR.out, Below.refl _ _⟩
   case round =>
    obtain ⟨k, hk, rfl, he, hbr⟩ := hrel
    have HE := Lib.hid he; have HBR := Lib.hid hbr
    clear he hbr
    by_cases hlt : k < x.1.length
    · obtain ⟨l, hl⟩ : ∃ l, x.1[k] = l := ⟨_, rfl⟩
      obtain ⟨p, g1, g2, g3⟩ := (HS3.out.tur (Below.tur HBR.out) HLB.out) k l (by rw [List.getElem?_eq_getElem hlt, hl])
      have HG3 := Lib.hid g3
      obtain ⟨fn, hfn⟩ : ∃ fn, tfn l.2 = fn := ⟨_, rfl⟩
      rw [hfn] at g2
      have HFN := Lib.hid hfn; have HL := Lib.hid hl
      clear g3 hfn hl
      have hst := store_fn2 (P := Tryz.prog) wr 126 (.string (tx l.1)) (.func (.func fn) #[] #[.pointer (some ⟨p, 0, none⟩)]) wr.heap.size rfl rfl
      go_upto_region 8 with (fail)
      clear g1 g2 hst
      have HB4 := Lib.hid (Below.next HBR.out (box1 wr (.cells #[.string (tx l.1), .func (.func fn) #[] #[.pointer (some ⟨p, 0, none⟩)]] 126)))
      have HG4 := Lib.hid (HG3.out.tur (Below.tur (b := b) (box1 wr (.cells #[.string (tx l.1), .func (.func fn) #[] #[.pointer (some ⟨p, 0, none⟩)]] 126))))
      have hm := Blk.made wr 126 [.string (tx l.1), .func (.func fn) #[] #[.pointer (some ⟨p, 0, none⟩)]] rfl
      have c0 := hm.c 0 _ rfl
      have c1 := hm.c 1 _ rfl
      change (wr.alloc (.cells #[.string (tx l.1), .func (.func fn) #[] #[.pointer (some ⟨p, 0, none⟩)]] 126)).cell? _ = _ at c0
      change (wr.alloc (.cells #[.string (tx l.1), .func (.func fn) #[] #[.pointer (some ⟨p, 0, none⟩)]] 126)).cell? _ = _ at c1
      clear hm
      generalize wr.alloc (.cells #[.string (tx l.1), .func (.func fn) #[] #[.pointer (some ⟨p, 0, none⟩)]] 126) = w4 at *
      by_cases hw : l.1 = f
      · have hwt : ((tx l.1).toList == (tx f).toList) = true := beq_iff_eq.2 (by rw [hw])
        have HTK := Lib.hid (take_any l.2 j b p (tx d) w4 HG4.out (HJ3.out.next HB4.out) (HK3.out.next HB4.out) (HT3.out.next HB4.out) (by rw [tx_size]; exact HDL.out))
        rw [tx_list, HFN.out] at HTK
        have HTF := Lib.hid (tfn_cases l.2)
        rw [HFN.out] at HTF
        rcases HTF.out with e | e | e | e
        all_goals
         clear HTF HFN
         subst e
         go_wp2_with (fail)
         refine HTK.out.mono ?_
         rintro e2 w5 ⟨ok, rfl, htu, hn, hy⟩
         have HTU := Lib.hid ((Below.tur (b := b) (Below.next HB3.out HB4.out)).trans htu)
         clear htu c0 c1
         cases htk : tk l.2 d j with
         | none =>
           have hok := hn htk
           have HRv : Hid (R = (0, 6, j)) := Lib.hid (by rw [← HE.out]; exact cst_no hlt (by rw [HL.out]; exact hw) (by rw [HL.out]; exact htk))
           subst hok
           clear hn hy htk hwt
           go_wp2_with (fail)
           exact bodyPost_ret (v := .tuple #[.int .i64 0, .int .i64 6]) (by simp [results, Tryz.results40, go_sem]) rfl (by rw [HRv.out]; exact ⟨rfl, HTU.out, fun e => by cases e⟩)
         | some j' =>
           obtain ⟨hok, hjx⟩ := hy _ htk
           have HRv : Hid (R = (a.length + 1, 0, j')) := Lib.hid (by rw [← HE.out]; exact cst_yes hlt (by rw [HL.out]; exact hw) (by rw [HL.out]; exact htk))
           subst hok
           have HJX := Lib.hid hjx
           clear hn hy htk hwt hjx
           go_wp2_with (fail)
           exact bodyPost_ret (v := .tuple #[.int .i64 ((a.length : Int) + 1), .int .i64 0]) (by simp [results, Tryz.results40, go_sem]) rfl (by rw [HRv.out]; exact ⟨rfl, HTU.out, fun _ => HJX.out⟩)
      · have hwf : ((tx l.1).toList == (tx f).toList) = false := beq_eq_false_iff_ne.2 (by rw [ByteArray.toList_eq, ByteArray.toList_eq, tx_list, tx_list]; exact hw)
        have HN : Hid (cst (x.1.drop (k + 1)) x.2 a.length f d j = R) := Lib.hid (by rw [← HE.out, cst_next hlt (by rw [HL.out]; exact hw)])
        clear hw
        go_wp2_with (fail)
        clear c0 c1
        go_roundw
        case rel => exact ⟨k + 1, by omega, by go_num, HN.out, HB4.out⟩
        case measure => simp [intOf]; omega
    · obtain rfl : k = x.1.length := by omega
      have HX5 := Lib.hid (HX3.out.next HBR.out)
      have c1 := HX5.out.c 1 _ rfl
      have HT5 := Lib.hid (Below.tur (b := b) (Below.next HB3.out HBR.out))
      have he := HE.out
      rw [cst_end] at he
      cases hbare : x.2 with
      | true =>
        rw [hbare, if_pos rfl] at he
        rw [hbare] at c1
        subst he
        have HJ5 := Lib.hid (HJ3.out.next HBR.out)
        clear hbare
        go_wp2_with (fail)
        exact bodyPost_ret (v := .tuple #[.int .i64 0, .int .i64 0]) (by simp [results, Tryz.results40, go_sem]) rfl ⟨rfl, HT5.out, fun _ => HJ5.out⟩
      | false =>
        rw [hbare, if_neg (by decide)] at he
        rw [hbare] at c1
        subst he
        clear hbare
        go_wp2_with (fail)
        exact bodyPost_ret (v := .tuple #[.int .i64 0, .int .i64 10]) (by simp [results, Tryz.results40, go_sem]) rfl ⟨rfl, HT5.out, fun e => by cases e⟩
def MK (f : FuncId) (v : Value) (w : World) (e : Ending) (w' : World) : Prop :=
 ∃ p, e = .returned (.func (.func f) #[] #[.pointer (some ⟨p, 0, none⟩)]) ∧ w.heap.size ≤ p ∧ w'.cell? ⟨p, 0, none⟩ = some v ∧ Below w.heap.size w w'
theorem made1 (w : World) (t : TypeId) (v : Value) : (w.alloc (.cells #[v] t)).cell? ⟨w.heap.size, 0, none⟩ = some v := (Blk.made w t [v] rfl).c 0 v rfl
theorem mword_any (a : Addr) (w : World) : Calls Tryz.prog 72 #[.pointer (some a)] w (MK 112 (.pointer (some a)) w) := by
 have h1 := made1 w 124 (.pointer (some a))
 have HB := Lib.hid (box1 w (.cells #[.pointer (some a)] 124))
 go_enter Tryz.func72, Tryz.ntmps72
 go_wp2_with (fail)
 go_ret
 exact ⟨_, rfl, Nat.le_refl _, h1, HB.out⟩
theorem mexpr_any (a : Addr) (w : World) : Calls Tryz.prog 74 #[.pointer (some a)] w (MK 117 (.pointer (some a)) w) := by
 have h1 := made1 w 130 (.pointer (some a))
 have HB := Lib.hid (box1 w (.cells #[.pointer (some a)] 130))
 go_enter Tryz.func74, Tryz.ntmps74
 go_wp2_with (fail)
 go_ret
 exact ⟨_, rfl, Nat.le_refl _, h1, HB.out⟩
theorem mans_any (a : Addr) (w : World) : Calls Tryz.prog 75 #[.pointer (some a)] w (MK 119 (.pointer (some a)) w) := by
 have h1 := made1 w 132 (.pointer (some a))
 have HB := Lib.hid (box1 w (.cells #[.pointer (some a)] 132))
 go_enter Tryz.func75, Tryz.ntmps75
 go_wp2_with (fail)
 go_ret
 exact ⟨_, rfl, Nat.le_refl _, h1, HB.out⟩
theorem mnum_any (q : Addr) (n c : Nat) (w : World) : Calls Tryz.prog 73 #[.slice (some q) n c] w (MK 114 (.slice (some q) n c) w) := by
 have h1 := made1 w 178 (.slice (some q) n c)
 have HB := Lib.hid (box1 w (.cells #[.slice (some q) n c] 178))
 go_enter Tryz.func73, Tryz.ntmps73
 go_wp2_with (fail)
 go_ret
 exact ⟨_, rfl, Nat.le_refl _, h1, HB.out⟩
theorem slm1 {w : World} {b L p : Nat} {kw : List UInt8} {T : Tk} (h : Blk w L [.string (tx kw), .func (.func (tfn T)) #[] #[.pointer (some ⟨p, 0, none⟩)]]) (m : TkM w b T p) : SlM w b L [(kw, T)] := fun k l e => by
 match k, e with
 | 0, e => injection e with e; subst e; exact ⟨p, h.c 0 _ rfl, h.c 1 _ rfl, m⟩
theorem slm2 {w : World} {b L p p' : Nat} {kw kw' : List UInt8} {T T' : Tk} (h : Blk w L [.string (tx kw), .func (.func (tfn T)) #[] #[.pointer (some ⟨p, 0, none⟩)], .string (tx kw'), .func (.func (tfn T')) #[] #[.pointer (some ⟨p', 0, none⟩)]]) (m : TkM w b T p) (m' : TkM w b T' p') : SlM w b L [(kw, T), (kw', T')] := fun k l e => by
 match k, e with
 | 0, e => injection e with e; subst e; exact ⟨p, h.c 0 _ rfl, h.c 1 _ rfl, m⟩
 | 1, e => injection e with e; subst e; exact ⟨p', h.c 2 _ rfl, h.c 3 _ rfl, m'⟩
theorem two_made (v : World) (tA tB : TypeId) (us bs : List Value) : Blk ((v.alloc (.cells us.toArray tA)).alloc (.cells bs.toArray tB)) v.heap.size us ∧ Blk ((v.alloc (.cells us.toArray tA)).alloc (.cells bs.toArray tB)) (v.heap.size + 1) bs ∧ Below v.heap.size v ((v.alloc (.cells us.toArray tA)).alloc (.cells bs.toArray tB)) := by
 have e1 : (v.alloc (.cells us.toArray tA)).heap.size = v.heap.size + 1 := by simp
 exact ⟨(Blk.made v tA us rfl).old _, Blk.made _ tB bs e1, Below.next (box1 v _) (box1 _ _)⟩
def SLS (w : World) (b S : Nat) : Prop := ∀ k x, sls[k]? = some x → ∃ L c, w.cell? ⟨S, k * 2, none⟩ = some (.slice (some ⟨L, 0, none⟩) x.1.length c) ∧ w.cell? ⟨S, k * 2 + 1, none⟩ = some (.bool x.2) ∧ SlM w b L x.1 ∧ L ≠ b
set_option maxRecDepth 100000 in
theorem arr_eql (a b c d e a' b' c' d' e' : Bool) (w : World) : (binOp .eql 122 (.agg #[.bool a, .bool b, .bool c, .bool d, .bool e]) (.agg #[.bool a', .bool b', .bool c', .bool d', .bool e'])).run Tryz.prog w = .ok (.bool (a == a' && (b == b' && (c == c' && (d == d' && e == e'))))) w := by
 have u := Tryz.underlying4
 have hi : ∃ i, Tryz.prog.info? 4 = some i := by
  have h : (Tryz.prog.info? 4).isSome = true := by kernel_rfl
  exact Option.isSome_iff_exists.1 h
 obtain ⟨i, hi⟩ := hi
 have hc : Tryz.prog.cellsOf 4 = 1 := by kernel_rfl
 rw [run_eql_struct, show (10000 : Nat) = 9999 + 1 from rfl, run_equalIn_array w 9999 _ _ Tryz.underlying122 hi, hc]
 clear hi hc
 rw [show List.range 5 = [0, 1, 2, 3, 4] from rfl]
 simp only [Op.eqItems]
 go_simp
 repeat' split
 all_goals simp_all
theorem nmv_hs (l : List No) : nmv l = .agg #[.bool (hs l 0), .bool (hs l 1), .bool (hs l 2), .bool (hs l 3), .bool (hs l 4)] := by
 unfold nmv hs
 cases h : Rt l
 · rfl
 · rfl
set_option maxRecDepth 100000 in
theorem index5 (a b c d e : Bool) (k : Nat) (v : Bool) (hk : k < 5) (hv : (#[.bool a, .bool b, .bool c, .bool d, .bool e] : Array Value)[k]? = some (.bool v)) (w : World) : (Instr.index 121 (.agg #[.bool a, .bool b, .bool c, .bool d, .bool e]) (.int .i64 (k : Int))).run Tryz.prog w = .ok (.bool v) w := by
 have hz : ∀ w, (Go.sizeOf 4).run Tryz.prog w = .ok 1 w := fun w => by kernel_rfl
 have ha : ∀ w, (Go.isAgg 4).run Tryz.prog w = .ok false w := fun w => by kernel_rfl
 have h1 : (0 : Int) ≤ (k : Int) ∧ (k : Int) < ((5 : Nat) : Int) := by omega
 simp [Instr.index, run_underlying Tryz.underlying121, asIntOf, hk, part, hz, ha, Sem.run_bind, Result.andThen]
 simpa [hk] using hv
def oc (a b c d e p q r s t : Bool) (k : Nat) : List Value := [.bool (a || (decide (0 < k) && p)), .bool (b || (decide (1 < k) && q)), .bool (c || (decide (2 < k) && r)), .bool (d || (decide (3 < k) && s)), .bool (e || (decide (4 < k) && t))]
set_option maxRecDepth 100000 in
set_option maxHeartbeats 2000000 in
theorem only_any (l : List No) (A : Option Addr) (c : Nat) (m0 m1 m2 m3 m4 : Bool) (w : World) (hn : Nds w A l) (hk : KN w) (hl : l.length ≤ 4294967296) : Calls Tryz.prog 70 #[.slice A l.length c, .agg #[.bool m0, .bool m1, .bool m2, .bool m3, .bool m4]] w
 (Gives (.bool ((m0 || hs l 0) == m0 && ((m1 || hs l 1) == m1 && ((m2 || hs l 2) == m2 && ((m3 || hs l 3) == m3 && (m4 || hs l 4) == m4))))) w) := by
 have HN := Lib.hid (fun w1 (h : Below w.heap.size w w1) => names_any l A c w1 (hn.next h) (hk.next h) hl)
 rw [nmv_hs] at HN
 clear hn hk
 generalize hs l 0 = n0 at *
 generalize hs l 1 = n1 at *
 generalize hs l 2 = n2 at *
 generalize hs l 3 = n3 at *
 generalize hs l 4 = n4 at *
 have hv := arr_eql (m0 || n0) (m1 || n1) (m2 || n2) (m3 || n3) (m4 || n4) m0 m1 m2 m3 m4
 generalize ((m0 || n0) == m0 && ((m1 || n1) == m1 && ((m2 || n2) == m2 && ((m3 || n3) == m3 && (m4 || n4) == m4)))) = z at *
 have HV := Lib.hid hv; clear hv
 go_enter Tryz.func70, Tryz.ntmps70
 have hb2 := box2 w (.cells #[.bool m0, .bool m1, .bool m2, .bool m3, .bool m4] 122) (.cells #[.bool m0, .bool m1, .bool m2, .bool m3, .bool m4] 122)
 have D1 : Blk ((w.alloc (.cells #[.bool m0, .bool m1, .bool m2, .bool m3, .bool m4] 122)).alloc (.cells #[.bool m0, .bool m1, .bool m2, .bool m3, .bool m4] 122)) w.heap.size [.bool m0, .bool m1, .bool m2, .bool m3, .bool m4] := (Blk.made w 122 [.bool m0, .bool m1, .bool m2, .bool m3, .bool m4] rfl).old _
 have D2 : Blk ((w.alloc (.cells #[.bool m0, .bool m1, .bool m2, .bool m3, .bool m4] 122)).alloc (.cells #[.bool m0, .bool m1, .bool m2, .bool m3, .bool m4] 122)) (w.heap.size + 1) (oc m0 m1 m2 m3 m4 n0 n1 n2 n3 n4 0) := (Blk.made (w.alloc (.cells #[.bool m0, .bool m1, .bool m2, .bool m3, .bool m4] 122)) 122 [.bool m0, .bool m1, .bool m2, .bool m3, .bool m4] (World.size_alloc _ _)).cast (by simp [oc])
 go_wp2_with (fail)
 refine (HN.out _ hb2).mono ?_
 rintro e w1 ⟨rfl, hb⟩
 have HD1 := Lib.hid (D1.next hb); have HD2 := Lib.hid (D2.next hb); have HB := Lib.hid (Below.next hb2 hb)
 clear hb hb2 D1 D2 HN
 go_wp2_with (fail)
 go_loopw [11] (fun i wr => ∃ k : Nat, k ≤ 5 ∧ i = .int .i64 (k : Int) ∧ Below w.heap.size w wr ∧ Blk wr w.heap.size [.bool m0, .bool m1, .bool m2, .bool m3, .bool m4] ∧ Blk wr (w.heap.size + 1) (oc m0 m1 m2 m3 m4 n0 n1 n2 n3 n4 k)) (fun i _ => 5 - (intOf i).toNat)
 case atStart => exact ⟨0, by omega, rfl, HB.out, HD1.out, HD2.out⟩
 case round =>
  obtain ⟨k, hk, rfl, hb, hd1, hd2⟩ := hrel
  have hz := hd2.lt
  by_cases hlt : k < 5
  · obtain ⟨mk, nk, hv, hc, hs⟩ : ∃ mk nk : Bool, (#[.bool n0, .bool n1, .bool n2, .bool n3, .bool n4] : Array Value)[k]? = some (.bool nk) ∧ (oc m0 m1 m2 m3 m4 n0 n1 n2 n3 n4 k)[k]? = some (.bool mk) ∧ (oc m0 m1 m2 m3 m4 n0 n1 n2 n3 n4 k).set k (.bool (mk || nk)) = oc m0 m1 m2 m3 m4 n0 n1 n2 n3 n4 (k + 1) := by
     obtain rfl | rfl | rfl | rfl | rfl : k = 0 ∨ k = 1 ∨ k = 2 ∨ k = 3 ∨ k = 4 := by omega
     · exact ⟨m0, n0, rfl, by simp [oc], by simp [oc]⟩
     · exact ⟨m1, n1, rfl, by simp [oc], by simp [oc]⟩
     · exact ⟨m2, n2, rfl, by simp [oc], by simp [oc]⟩
     · exact ⟨m3, n3, rfl, by simp [oc], by simp [oc]⟩
     · exact ⟨m4, n4, rfl, by simp [oc], by simp [oc]⟩
    have hi := index5 n0 n1 n2 n3 n4 k nk hlt hv
    have HS := Lib.hid ((hd2.set k (.bool (mk || nk))).cast hs)
    have HT := Lib.hid (hd1.put (show w.heap.size + 1 ≠ w.heap.size by omega) k (.bool (mk || nk)))
    have HB9 := Lib.hid (hb.setCell (p := ⟨w.heap.size + 1, k, none⟩) (Nat.le_succ _) (.bool (mk || nk)))
    have d0 := hd2.c k _ hc
    have f0 := hd2.f k _ hc
    clear hd1 hd2 hb HD1 HD2 HB hv hc hs
    cases mk
    all_goals
     go_wp2_with (fail)
     go_roundw
     case rel => exact ⟨k + 1, by omega, by go_num, HB9.out, HT.out, HS.out⟩
     case measure => simp [intOf]; omega
  · obtain rfl : k = 5 := by omega
    have HB9 := Lib.hid hb
    have c0 := hd1.c 0 _ rfl; have c1 := hd1.c 1 _ rfl; have c2 := hd1.c 2 _ rfl; have c3 := hd1.c 3 _ rfl; have c4 := hd1.c 4 _ rfl
    have hd := hd2.cast (us := [.bool (m0 || n0), .bool (m1 || n1), .bool (m2 || n2), .bool (m3 || n3), .bool (m4 || n4)]) (by simp [oc])
    have d0 := hd.c 0 _ rfl; have d1 := hd.c 1 _ rfl; have d2 := hd.c 2 _ rfl; have d3 := hd.c 3 _ rfl; have d4 := hd.c 4 _ rfl
    clear hd hd1 hd2 hb HD1 HD2 HB
    have hv := HV.out
    go_wp2_with (fail)
    go_ret
    exact ⟨rfl, HB9.out⟩
set_option maxRecDepth 100000 in
theorem emits_any (l : List No) (A : Option Addr) (c : Nat) (w : World) (hn : Nds w A l) (hl : l.length ≤ 4294967296) : Calls Tryz.prog 71 #[.slice A l.length c] w (Gives (.bool (em l)) w) := by
 have HN := Lib.hid hn; clear hn
 go_enter Tryz.func71, Tryz.ntmps71
 go_wp2_with (fail)
 go_loopw [7] (fun i wr => ∃ k : Nat, k ≤ l.length ∧ i = .int .i64 (k : Int) ∧ Below w.heap.size w wr ∧ (l.take k).any (fun n => n.o == 26) = false) (fun i _ => l.length - (intOf i).toNat)
 case atStart => exact ⟨0, Nat.zero_le _, rfl, Below.refl _ _, rfl⟩
 case round =>
  obtain ⟨k, hk, rfl, hb, hno⟩ := hrel
  have HB := Lib.hid hb; have HN1 := Lib.hid (HN.out.next hb); have HO := Lib.hid hno
  clear hb hno
  by_cases hlt : k < l.length
  · obtain ⟨G, O, rfl⟩ := HN1.out.shape (by omega)
    have HE : Hid ((l.take (k + 1)).any (fun n => n.o == 26) = ((nd l k).o == 26)) := by
     show _ = _
     rw [nd_at hlt, List.take_succ_eq_append_getElem hlt, List.any_append, HO.out]; simp
    have HM : Hid (((nd l k).o == 26) = true → em l = true) := fun h => by
     unfold em
     rw [List.any_eq_true]
     exact ⟨l[k], List.getElem_mem hlt, by rw [← nd_at hlt]; exact h⟩
    have e0 := HN1.out.cell hlt 0 _ rfl
    have e1 := HN1.out.cell hlt 1 _ rfl
    have e2 := HN1.out.cell hlt 2 _ rfl
    have e3 := HN1.out.cell hlt 3 _ rfl
    have e4 := HN1.out.cell hlt 4 _ rfl
    have e5 := HN1.out.cell hlt 5 _ rfl
    rw [Nat.add_zero] at e0
    obtain ⟨q, hq⟩ : ∃ q, ((nd l k).o == 26) = q := ⟨_, rfl⟩
    rw [hq] at HE HM
    generalize nd l k = n at *
    have HB2 := Lib.hid (below_box HB.out (.cells #[.int .i64 n.o, .int .i64 n.v.k, .int .i64 n.v.n, .string (tx n.v.s), .int .i64 n.v.x, .int .i64 n.v.y] 118))
    have HM' : Hid (q = true → em l = true) := Lib.hid HM.out
    clear HM
    cases q
    · go_wp2_with (fail)
      go_roundw
      case rel => exact ⟨k + 1, by omega, by go_num, HB2.out, HE.out⟩
      case measure => simp [intOf]; omega
    · go_wp2_with (fail)
      go_ret
      exact ⟨by rw [HM'.out (by simp)]; rfl, HB2.out⟩
  · obtain rfl : k = l.length := by omega
    have HE : Hid (em l = false) := by
     show _ = _
     have h := HO.out
     rw [List.take_length] at h; exact h
    go_wp2_with (fail)
    go_ret
    exact ⟨by rw [HE.out]; rfl, HB.out⟩
end Go.Proofs.YtimllihegnokeaaGreatDoor.Jo
namespace Go.Proofs.YtimllihegnokeaaGreatDoor.Jo
open Go.ChangeShapes Go.WideShapes Go.ChangeAt Go.RowKit Ov Va Ex Ev
theorem numbers_ok (j : Jb) (A1 : Option Addr) (c1 : Nat) (A2 : Option Addr) (c2 : Nat) (A3 : Option Addr) (c3 : Nat) (w : World) : Calls Tryz.prog 35 #[.agg #[.string (tx j.nm), .int .i64 j.t, .int .i64 j.p, .int .i64 j.k, .int .i64 j.n, .int .i64 j.f, .slice A1 j.m.length c1, .slice A2 j.b.length c2, .slice A3 j.r.length c3, .string (tx j.fd), .bool j.cb]] w (Gives (.bool (numOk j)) w) := by
 unfold numOk
 have HJ := Lib.hid (made11 w 32 (.string (tx j.nm)) (.int .i64 j.t) (.int .i64 j.p) (.int .i64 j.k) (.int .i64 j.n) (.int .i64 j.f) (.slice A1 j.m.length c1) (.slice A2 j.b.length c2) (.slice A3 j.r.length c3) (.string (tx j.fd)) (.bool j.cb))
 have HB := Lib.hid (box1 w (.cells #[.string (tx j.nm), .int .i64 j.t, .int .i64 j.p, .int .i64 j.k, .int .i64 j.n, .int .i64 j.f, .slice A1 j.m.length c1, .slice A2 j.b.length c2, .slice A3 j.r.length c3, .string (tx j.fd), .bool j.cb] 32))
 go_enter Tryz.func35, Tryz.ntmps35
 obtain ⟨e0, e1, e2, e3, e4, e5, e6, e7, e8, e9, e10⟩ := elev HJ.out
 go_wp2_with (fail)
 clear e0 e1 e2 e3 e4 e5 e6 e7 e8 e9 e10
 generalize w.alloc (.cells #[.string (tx j.nm), .int .i64 j.t, .int .i64 j.p, .int .i64 j.k, .int .i64 j.n, .int .i64 j.f, .slice A1 j.m.length c1, .slice A2 j.b.length c2, .slice A3 j.r.length c3, .string (tx j.fd), .bool j.cb] 32) = v at *
 refine (within_any j.t 16 _).mono ?_
 rintro e w1 ⟨rfl, hb⟩
 replace HJ := Lib.hid (HJ.out.next hb); replace HB := Lib.hid (Below.next HB.out hb); clear hb
 cases q0 : wn1 j.t 16
 · go_wp2_with (fail)
   go_ret
   exact ⟨by simp [*], HB.out⟩
 obtain ⟨e0, e1, e2, e3, e4, e5, e6, e7, e8, e9, e10⟩ := elev HJ.out
 go_wp2_with (fail)
 clear e0 e1 e2 e3 e4 e5 e6 e7 e8 e9 e10
 refine (within_any j.p 16 _).mono ?_
 rintro e w2 ⟨rfl, hb⟩
 replace HJ := Lib.hid (HJ.out.next hb); replace HB := Lib.hid (Below.next HB.out hb); clear hb
 cases q1 : wn1 j.p 16
 · go_wp2_with (fail)
   go_ret
   exact ⟨by simp [*], HB.out⟩
 obtain ⟨e0, e1, e2, e3, e4, e5, e6, e7, e8, e9, e10⟩ := elev HJ.out
 go_wp2_with (fail)
 clear e0 e1 e2 e3 e4 e5 e6 e7 e8 e9 e10
 refine (within_any j.n 16 _).mono ?_
 rintro e w3 ⟨rfl, hb⟩
 replace HJ := Lib.hid (HJ.out.next hb); replace HB := Lib.hid (Below.next HB.out hb); clear hb
 cases q2 : wn1 j.n 16
 · go_wp2_with (fail)
   go_ret
   exact ⟨by simp [*], HB.out⟩
 obtain ⟨e0, e1, e2, e3, e4, e5, e6, e7, e8, e9, e10⟩ := elev HJ.out
 go_wp2_with (fail)
 clear e0 e1 e2 e3 e4 e5 e6 e7 e8 e9 e10
 refine (within_any j.k j.n _).mono ?_
 rintro e w4 ⟨rfl, hb⟩
 replace HJ := Lib.hid (HJ.out.next hb); replace HB := Lib.hid (Below.next HB.out hb); clear hb
 cases q3 : wn1 j.k j.n
 · go_wp2_with (fail)
   go_ret
   exact ⟨by simp [*], HB.out⟩
 obtain ⟨e0, e1, e2, e3, e4, e5, e6, e7, e8, e9, e10⟩ := elev HJ.out
 go_wp2_with (fail)
 clear e0 e1 e2 e3 e4 e5 e6 e7 e8 e9 e10
 refine (within_any j.f 100000 _).mono ?_
 rintro e w5 ⟨rfl, hb⟩
 replace HJ := Lib.hid (HJ.out.next hb); replace HB := Lib.hid (Below.next HB.out hb); clear hb
 go_wp2_with (fail)
 go_ret
 exact ⟨by simp [*], HB.out⟩
theorem express_ok (j : Jb) (A1 : Option Addr) (c1 : Nat) (A2 : Option Addr) (c2 : Nat) (A3 : Option Addr) (c3 : Nat) (w : World) (hj : JL w j A1 A2 A3) (hk : KN w) : Calls Tryz.prog 36 #[.agg #[.string (tx j.nm), .int .i64 j.t, .int .i64 j.p, .int .i64 j.k, .int .i64 j.n, .int .i64 j.f, .slice A1 j.m.length c1, .slice A2 j.b.length c2, .slice A3 j.r.length c3, .string (tx j.fd), .bool j.cb]] w (Gives (.bool (exOk j)) w) := by
 have H1 := Lib.hid (fun w1 (h : Below w.heap.size w w1) => eright_any j.m A1 c1 w1 (hj.m.next h) (hk.next h) hj.lm)
 have H2 := Lib.hid (fun w1 (h : Below w.heap.size w w1) => eright_any j.b A2 c2 w1 (hj.b.next h) (hk.next h) hj.lb)
 have H3 := Lib.hid (fun w1 (h : Below w.heap.size w w1) => eright_any j.r A3 c3 w1 (hj.r.next h) (hk.next h) hj.lr)
 have hb0 : j.b.isEmpty = decide (j.b.length = 0) := by cases j.b <;> simp
 have hr0 : j.r.isEmpty = decide (j.r.length = 0) := by cases j.r <;> simp
 unfold exOk
 rw [hb0, hr0]
 clear hj hk hb0 hr0
 have HJ := Lib.hid (made11 w 32 (.string (tx j.nm)) (.int .i64 j.t) (.int .i64 j.p) (.int .i64 j.k) (.int .i64 j.n) (.int .i64 j.f) (.slice A1 j.m.length c1) (.slice A2 j.b.length c2) (.slice A3 j.r.length c3) (.string (tx j.fd)) (.bool j.cb))
 have HB := Lib.hid (box1 w (.cells #[.string (tx j.nm), .int .i64 j.t, .int .i64 j.p, .int .i64 j.k, .int .i64 j.n, .int .i64 j.f, .slice A1 j.m.length c1, .slice A2 j.b.length c2, .slice A3 j.r.length c3, .string (tx j.fd), .bool j.cb] 32))
 go_enter Tryz.func36, Tryz.ntmps36
 obtain ⟨e0, e1, e2, e3, e4, e5, e6, e7, e8, e9, e10⟩ := elev HJ.out
 go_wp2_with (fail)
 clear e0 e1 e2 e3 e4 e5 e6 e7 e8 e9 e10
 generalize w.alloc (.cells #[.string (tx j.nm), .int .i64 j.t, .int .i64 j.p, .int .i64 j.k, .int .i64 j.n, .int .i64 j.f, .slice A1 j.m.length c1, .slice A2 j.b.length c2, .slice A3 j.r.length c3, .string (tx j.fd), .bool j.cb] 32) = v at *
 refine (H1.out _ HB.out).mono ?_
 rintro e w1 ⟨rfl, hb⟩
 replace HJ := Lib.hid (HJ.out.next hb); replace HB := Lib.hid (Below.next HB.out hb); clear hb
 cases q1 : Rt j.m
 · go_wp2_with (fail)
   go_ret
   exact ⟨by simp [*], HB.out⟩
 obtain ⟨e0, e1, e2, e3, e4, e5, e6, e7, e8, e9, e10⟩ := elev HJ.out
 by_cases h2 : j.b.length = 0
 · have h5 : ((j.b.length : Int) == 0) = true := beq_iff_eq.2 (by omega)
   by_cases h3 : j.r.length = 0
   · have h4 : ((j.r.length : Int) == 0) = true := beq_iff_eq.2 (by omega)
     obtain ⟨e0, e1, e2, e3, e4, e5, e6, e7, e8, e9, e10⟩ := elev HJ.out
     go_wp2_with (fail)
     go_ret
     exact ⟨by simp [*], HB.out⟩
   · have h4 : ((j.r.length : Int) == 0) = false := beq_eq_false_iff_ne.2 (by omega)
     obtain ⟨e0, e1, e2, e3, e4, e5, e6, e7, e8, e9, e10⟩ := elev HJ.out
     go_wp2_with (fail)
     clear e0 e1 e2 e3 e4 e5 e6 e7 e8 e9 e10
     clear h4
     refine (H3.out _ HB.out).mono ?_
     rintro e w3 ⟨rfl, hb⟩
     replace HJ := Lib.hid (HJ.out.next hb); replace HB := Lib.hid (Below.next HB.out hb); clear hb
     go_wp2_with (fail)
     go_ret
     exact ⟨by simp [*], HB.out⟩
 · have h5 : ((j.b.length : Int) == 0) = false := beq_eq_false_iff_ne.2 (by omega)
   go_wp2_with (fail)
   clear e0 e1 e2 e3 e4 e5 e6 e7 e8 e9 e10
   refine (H2.out _ HB.out).mono ?_
   rintro e w2 ⟨rfl, hb⟩
   replace HJ := Lib.hid (HJ.out.next hb); replace HB := Lib.hid (Below.next HB.out hb); clear hb
   cases q2 : Rt j.b
   · go_wp2_with (fail)
     go_ret
     exact ⟨by simp [*], HB.out⟩
   · by_cases h3 : j.r.length = 0
     · have h4 : ((j.r.length : Int) == 0) = true := beq_iff_eq.2 (by omega)
       obtain ⟨e0, e1, e2, e3, e4, e5, e6, e7, e8, e9, e10⟩ := elev HJ.out
       go_wp2_with (fail)
       go_ret
       exact ⟨by simp [*], HB.out⟩
     · have h4 : ((j.r.length : Int) == 0) = false := beq_eq_false_iff_ne.2 (by omega)
       obtain ⟨e0, e1, e2, e3, e4, e5, e6, e7, e8, e9, e10⟩ := elev HJ.out
       go_wp2_with (fail)
       clear e0 e1 e2 e3 e4 e5 e6 e7 e8 e9 e10
       clear h4
       refine (H3.out _ HB.out).mono ?_
       rintro e w3 ⟨rfl, hb⟩
       replace HJ := Lib.hid (HJ.out.next hb); replace HB := Lib.hid (Below.next HB.out hb); clear hb
       go_wp2_with (fail)
       go_ret
       exact ⟨by simp [*], HB.out⟩
theorem empty_tx (l : List UInt8) : (tx l).toList.isEmpty = l.isEmpty := by rw [ByteArray.toList_eq, tx_list]
theorem fold_ok (j : Jb) (A1 : Option Addr) (c1 : Nat) (A2 : Option Addr) (c2 : Nat) (A3 : Option Addr) (c3 : Nat) (w : World) : Calls Tryz.prog 37 #[.agg #[.string (tx j.nm), .int .i64 j.t, .int .i64 j.p, .int .i64 j.k, .int .i64 j.n, .int .i64 j.f, .slice A1 j.m.length c1, .slice A2 j.b.length c2, .slice A3 j.r.length c3, .string (tx j.fd), .bool j.cb]] w (Gives (.bool (fdOk j)) w) := by
 have HF := Lib.hid (fun w => isF_any (tx j.fd) w)
 rw [tx_list] at HF
 have HE := Lib.hid (empty_tx j.fd)
 have hr0 : j.r.isEmpty = decide (j.r.length = 0) := by cases j.r <;> simp
 unfold fdOk
 rw [hr0]
 clear hr0
 by_cases h3 : j.r.length = 0
 · rw [if_pos (decide_eq_true h3)]
   have h4 : decide (0 < j.r.length) = false := decide_eq_false (by omega)
   clear h3
   have HJ := Lib.hid (made11 w 32 (.string (tx j.nm)) (.int .i64 j.t) (.int .i64 j.p) (.int .i64 j.k) (.int .i64 j.n) (.int .i64 j.f) (.slice A1 j.m.length c1) (.slice A2 j.b.length c2) (.slice A3 j.r.length c3) (.string (tx j.fd)) (.bool j.cb))
   have HB := Lib.hid (box1 w (.cells #[.string (tx j.nm), .int .i64 j.t, .int .i64 j.p, .int .i64 j.k, .int .i64 j.n, .int .i64 j.f, .slice A1 j.m.length c1, .slice A2 j.b.length c2, .slice A3 j.r.length c3, .string (tx j.fd), .bool j.cb] 32))
   go_enter Tryz.func37, Tryz.ntmps37
   obtain ⟨e0, e1, e2, e3, e4, e5, e6, e7, e8, e9, e10⟩ := elev HJ.out
   go_wp2_with (fail)
   clear e0 e1 e2 e3 e4 e5 e6 e7 e8 e9 e10
   refine (HF.out _).mono ?_
   rintro e w1 ⟨rfl, hb⟩
   replace HJ := Lib.hid (HJ.out.next hb); replace HB := Lib.hid (Below.next HB.out hb); clear hb
   go_wp2_with (fail)
   go_ret
   exact ⟨rfl, HB.out⟩
 · rw [if_neg (by rw [decide_eq_false h3]; decide)]
   have h4 : decide (0 < j.r.length) = true := decide_eq_true (by omega)
   clear h3
   have HJ := Lib.hid (made11 w 32 (.string (tx j.nm)) (.int .i64 j.t) (.int .i64 j.p) (.int .i64 j.k) (.int .i64 j.n) (.int .i64 j.f) (.slice A1 j.m.length c1) (.slice A2 j.b.length c2) (.slice A3 j.r.length c3) (.string (tx j.fd)) (.bool j.cb))
   have HB := Lib.hid (box1 w (.cells #[.string (tx j.nm), .int .i64 j.t, .int .i64 j.p, .int .i64 j.k, .int .i64 j.n, .int .i64 j.f, .slice A1 j.m.length c1, .slice A2 j.b.length c2, .slice A3 j.r.length c3, .string (tx j.fd), .bool j.cb] 32))
   go_enter Tryz.func37, Tryz.ntmps37
   obtain ⟨e0, e1, e2, e3, e4, e5, e6, e7, e8, e9, e10⟩ := elev HJ.out
   go_wp2_with (fail)
   go_ret
   exact ⟨by rw [← HE.out]; rfl, HB.out⟩
end Go.Proofs.YtimllihegnokeaaGreatDoor.Jo

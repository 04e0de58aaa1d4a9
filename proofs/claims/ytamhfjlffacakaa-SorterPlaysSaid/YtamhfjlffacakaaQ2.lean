/-
  Small texts of this claim, together: PrMath, StKit, StSwap, StRuns, PrRead, VaOrder, OvDuo, GaDivide, GaDiv, GaFirst, GaTurn, GaDiv2, GaCommon, JoFold, GaRef, GaRef2, GaRef3.
-/
import Derived.Test.YtamhfjlffacakaaQ1
import Derived.Test.YtamhfjlffacakaaQStMath
import Derived.Test.YtamhfjlffacakaaRows
import Derived.Shelf.SlSortCmp.KitK
import Derived.Sort.WalkB2
import Derived.Sort.WalkB12
import Derived.Deep.LoopGhost
import Derived.Lib.Hide
import Derived.Test.YtamhfjlffacakaaQVaRight
import Derived.Test.YtamhfjlffacakaaQOvAlloc
namespace Go.Proofs.Ytamhfjlffacakaa.Pr
open Va St Go.Sort
abbrev Pr := List UInt8 × Va
def pz : Pr := ([], ⟨0, 0, [], 0, 0⟩)
instance : Inhabited Pr := ⟨pz⟩
def ck (a b : Pr) : Int := cS a.1 b.1
def kl (a b : Pr) : Bool := Op.bytesLess a.1 b.1
theorem ck_kl (a b : Pr) : decide (ck a b < 0) = kl a b := by
 unfold ck kl cS
 rcases less_total a.1 b.1 with h | h | h
 · rw [if_pos h, h]; rfl
 · rw [if_neg (by rw [less_asymm h]; simp), if_pos h, less_asymm h]; rfl
 · rw [h, less_irrefl]; rfl
theorem swo : SWO kl where
 irrefl := fun x => less_irrefl x.1
 trans := fun x y z h1 h2 => less_trans h1 h2
 ntrans := fun x y z h1 h2 => by
  cases h : kl x z with
  | false => rfl
  | true =>
    rcases less_total y.1 z.1 with g | g | g
    · rcases less_total x.1 y.1 with f | f | f
      · exact absurd (show kl x y = true from f) (by rw [h1]; simp)
      · exact absurd (show kl y z = true from g) (by rw [h2]; simp)
      · exact absurd (show kl y z = true from g) (by rw [h2]; simp)
    · have := less_trans (show Op.bytesLess x.1 z.1 = true from h) g
      exact absurd (show kl x y = true from this) (by rw [h1]; simp)
    · have e : kl x y = kl x z := by unfold kl; rw [g]
      rw [← e, h1] at h; cases h
def Od (l : List Pr) : Prop := l.Pairwise fun a b => kl b a = false
def ky (k : List UInt8) (l : List Pr) : List Pr := l.filter fun p => decide (p.1 = k)
theorem cls_key (k : List UInt8) : Cls kl fun p => decide (p.1 = k) := fun x y hx hy => by
 have e1 := of_decide_eq_true hx; have e2 := of_decide_eq_true hy
 unfold kl; rw [e1, e2]; exact less_irrefl k
def insb (p : Pr) : List Pr → List Pr
 | [] => [p]
 | x :: t => if kl x p = true then x :: insb p t else p :: x :: t
def sr : List Pr → List Pr
 | [] => []
 | p :: t => insb p (sr t)
theorem insb_mem (p x : Pr) (l : List Pr) : x ∈ insb p l ↔ x = p ∨ x ∈ l := by
 induction l with
 | nil => simp [insb]
 | cons y t ih =>
   unfold insb
   split
   · rw [List.mem_cons, ih, List.mem_cons]
     constructor
     · rintro (h | h | h) <;> simp [h]
     · rintro (h | h | h) <;> simp [h]
   · rw [List.mem_cons]
theorem insb_od (p : Pr) (l : List Pr) (h : Od l) : Od (insb p l) := by
 induction l with
 | nil => exact List.pairwise_singleton _ _
 | cons x t ih =>
   obtain ⟨h1, h2⟩ := List.pairwise_cons.1 h
   unfold insb
   split
   · rename_i hc
     refine List.pairwise_cons.2 ⟨fun y hy => ?_, ih h2⟩
     rcases (insb_mem p y t).1 hy with rfl | hy
     · exact swo.asymmA hc
     · exact h1 y hy
   · rename_i hc
     refine List.pairwise_cons.2 ⟨fun y hy => ?_, h⟩
     rcases List.mem_cons.1 hy with rfl | hy
     · simpa using hc
     · exact swo.ntrans _ _ _ (h1 y hy) (by simpa using hc)
theorem insb_ky (p : Pr) (l : List Pr) (k : List UInt8) : ky k (insb p l) = ky k (p :: l) := by
 induction l with
 | nil => rfl
 | cons x t ih =>
   unfold insb
   split
   · rename_i hc
     unfold ky at ih ⊢
     by_cases hx : x.1 = k
     · have hp : p.1 ≠ k := fun e => by
        have : kl x p = false := by unfold kl; rw [hx, e]; exact less_irrefl k
        rw [this] at hc; cases hc
       simp only [List.filter_cons, ih]
       simp [hx, hp]
     · simp only [List.filter_cons, ih]
       simp [hx]
   · rfl
theorem sr_od (l : List Pr) : Od (sr l) := by
 induction l with
 | nil => exact List.Pairwise.nil
 | cons p t ih => exact insb_od p _ ih
theorem sr_ky (l : List Pr) (k : List UInt8) : ky k (sr l) = ky k l := by
 induction l with
 | nil => rfl
 | cons p t ih =>
   show ky k (insb p (sr t)) = _
   rw [insb_ky]
   unfold ky at ih ⊢
   rw [List.filter_cons, List.filter_cons, ih]
theorem od_uniq (l m : List Pr) (hl : Od l) (hm : Od m) (h : ∀ k, ky k l = ky k m) : l = m := by
 have none : ∀ (l : List Pr) (k : List UInt8), (∀ x ∈ l, x.1 ≠ k) → ky k l = [] := fun l k hk => List.filter_eq_nil_iff.2 fun x hx => by simpa using hk x hx
 have key : ∀ (x : Pr) (l : List Pr), ky x.1 (x :: l) = x :: ky x.1 l := fun x l => List.filter_cons_of_pos (by simp)
 induction l generalizing m with
 | nil => cases m with
   | nil => rfl
   | cons y t => have := h y.1; rw [key] at this; cases this
 | cons x t ih =>
   cases m with
   | nil => have := h x.1; rw [key] at this; cases this
   | cons y u =>
     obtain ⟨a1, a2⟩ := List.pairwise_cons.1 hl
     obtain ⟨b1, b2⟩ := List.pairwise_cons.1 hm
     have e : x.1 = y.1 := by
      rcases less_total x.1 y.1 with g | g | g
      · have := h x.1
        rw [key, none (y :: u) x.1 fun z hz e => by
         rcases List.mem_cons.1 hz with rfl | hz
         · rw [e, less_irrefl] at g; cases g
         · have := b1 z hz
           unfold kl at this; rw [e, g] at this; cases this] at this
        cases this
      · have := h y.1
        rw [key, none (x :: t) y.1 fun z hz e => by
         rcases List.mem_cons.1 hz with rfl | hz
         · rw [e, less_irrefl] at g; cases g
         · have := a1 z hz
           unfold kl at this; rw [e, g] at this; cases this] at this
        cases this
      · exact g
     have hx := h x.1
     rw [key] at hx
     rw [e, key] at hx
     obtain ⟨e1, _⟩ := List.cons.inj hx
     subst e1
     congr 1
     refine ih u a2 b2 fun k => ?_
     have := h k
     unfold ky at this ⊢
     rw [List.filter_cons, List.filter_cons] at this
     split at this
     · exact (List.cons.inj this).2
     · exact this
theorem sr_uniq (l m : List Pr) (hl : Od l) (h : ∀ k, ky k l = ky k m) : l = sr m := od_uniq l (sr m) hl (sr_od m) fun k => by rw [h k, sr_ky]
theorem sr_self (l : List Pr) (hl : Od l) : sr l = l := (sr_uniq l l hl fun _ => rfl).symm
theorem ky_append (k : List UInt8) (a b : List Pr) : ky k (a ++ b) = ky k a ++ ky k b := List.filter_append ..
theorem sr_len (l : List Pr) : (sr l).length = l.length := by
 have insl : ∀ (p : Pr) (l : List Pr), (insb p l).length = l.length + 1 := fun p l => by
  induction l with
  | nil => rfl
  | cons x t ih => unfold insb; split <;> simp [ih]
 induction l with
 | nil => rfl
 | cons p t ih => show (insb p (sr t)).length = _; rw [insl, ih]; rfl
theorem sr_mem (l : List Pr) (x : Pr) : x ∈ sr l ↔ x ∈ l := by
 have e : ∀ l : List Pr, x ∈ l ↔ x ∈ ky x.1 l := fun l => by simp [ky]
 rw [e, sr_ky, ← e]
theorem sr_of_srt {d d' : Array Pr} (h : Srt kl 0 d.size d d') : d'.toList = sr d.toList := by
 refine sr_uniq _ _ ?_ fun k => h.stab _ (cls_key k)
 rw [Od, List.pairwise_iff_getElem]
 intro i j hi hj hij
 have e := h.ord i j (Nat.zero_le _) hij (by rw [← h.size]; simpa using hj)
 rw [getElem!_pos d' i (by simpa using hi), getElem!_pos d' j (by simpa using hj)] at e
 simpa using e
end Go.Proofs.Ytamhfjlffacakaa.Pr
namespace Go.Proofs.Ytamhfjlffacakaa.St
open Go.Proofs Go.RowKit Go.Shelf Go.Lib Go.Sort
structure StL (P : Program) : Prop where
 mixed : P.follows .mixedOrders = true
 fI : P.funcs[86]? = some Try.f86
 fM : P.funcs[87]? = some Try.f87
 fR : P.funcs[93]? = some Try.f93
 fS : P.funcs[101]? = some Try.f101
 fT : P.funcs[75]? = some Try.f75
 fO : P.funcs[56]? = some Try.f56
 t0 : P.underlying 0 = some (TypeDesc.tuple #[])
 a0 : ∀ w, (isAgg 0).run P w = .ok false w
 z0 : ∀ w, (Go.sizeOf 0).run P w = .ok 1 w
 v0 : ∀ w, (zeroValue 0).run P w = .ok (Value.tuple #[]) w
 t3 : P.underlying 3 = some (TypeDesc.int IntKind.i64)
 a3 : ∀ w, (isAgg 3).run P w = .ok false w
 z3 : ∀ w, (Go.sizeOf 3).run P w = .ok 1 w
 v3 : ∀ w, (zeroValue 3).run P w = .ok (Value.int IntKind.i64 0) w
 t4 : P.underlying 4 = some (TypeDesc.bool)
 a4 : ∀ w, (isAgg 4).run P w = .ok false w
 z4 : ∀ w, (Go.sizeOf 4).run P w = .ok 1 w
 v4 : ∀ w, (zeroValue 4).run P w = .ok (Value.bool false) w
 t22 : P.underlying 22 = some (TypeDesc.slice 35)
 a22 : ∀ w, (isAgg 22).run P w = .ok false w
 z22 : ∀ w, (Go.sizeOf 22).run P w = .ok 1 w
 v22 : ∀ w, (zeroValue 22).run P w = .ok (Value.slice none 0 0) w
 t25 : P.underlying 83 = some (TypeDesc.func #[35, 35] #[3] false)
 a25 : ∀ w, (isAgg 83).run P w = .ok false w
 z25 : ∀ w, (Go.sizeOf 83).run P w = .ok 1 w
 v25 : ∀ w, (zeroValue 83).run P w = .ok (Value.nilFunc) w
 tu : P.underlying 120 = some (TypeDesc.int IntKind.u64)
 au : ∀ w, (isAgg 120).run P w = .ok false w
 zu : ∀ w, (Go.sizeOf 120).run P w = .ok 1 w
 vu : ∀ w, (zeroValue 120).run P w = .ok (Value.int IntKind.u64 0) w
theorem stL : StL Try.prog where
 mixed := by kernel_rfl
 fI := by kernel_rfl
 fM := by kernel_rfl
 fR := by kernel_rfl
 fS := by kernel_rfl
 fT := by kernel_rfl
 fO := by kernel_rfl
 t0 := by kernel_rfl
 a0 := fun _ => by kernel_rfl
 z0 := fun _ => by kernel_rfl
 v0 := fun _ => by kernel_rfl
 t3 := by kernel_rfl
 a3 := fun _ => by kernel_rfl
 z3 := fun _ => by kernel_rfl
 v3 := fun _ => by kernel_rfl
 t4 := by kernel_rfl
 a4 := fun _ => by kernel_rfl
 z4 := fun _ => by kernel_rfl
 v4 := fun _ => by kernel_rfl
 t22 := by kernel_rfl
 a22 := fun _ => by kernel_rfl
 z22 := fun _ => by kernel_rfl
 v22 := fun _ => by kernel_rfl
 t25 := by kernel_rfl
 a25 := fun _ => by kernel_rfl
 z25 := fun _ => by kernel_rfl
 v25 := fun _ => by kernel_rfl
 tu := by kernel_rfl
 au := fun _ => by kernel_rfl
 zu := fun _ => by kernel_rfl
 vu := fun _ => by kernel_rfl
def ren : Ren := ⟨fun | 20 => 86 | n => n, fun | 0 => 0 | 3 => 3 | 4 => 4 | 22 => 22 | 24 => 35 | 25 => 83 | n => n, fun n => n⟩
theorem StL.ins {P : Program} (L : StL P) : SlLaysF0.n20 P ren :=
 { mixed := L.mixed, f20 := ⟨Try.f86.name, by kernel_rfl, L.fI.trans (by kernel_rfl)⟩, t0 := L.t0, a0 := L.a0, z0 := L.z0, v0 := L.v0, t3 := L.t3, a3 := L.a3, z3 := L.z3, v3 := L.v3, t4 := L.t4, a4 := L.a4, z4 := L.z4, v4 := L.v4, t22 := L.t22, a22 := L.a22, z22 := L.z22, v22 := L.v22, t25 := L.t25, a25 := L.a25, z25 := L.z25, v25 := L.v25 }
section
variable {P : Program} {α : Type} [Inhabited α]
set_option maxHeartbeats 4000000 in
set_option maxRecDepth 1000000 in
theorem swapRange (L : StL P) (k : Nat) (aE : ∀ w, (isAgg 35).run P w = .ok true w) (zE : ∀ w, (Go.sizeOf 35).run P w = .ok k w) (enc : α → List Value) (g : Nat) (cb : Array Value) (blk off cap a b n : Nat) (d0 d : Array α) (w0 w : World)
 (R : RowK enc k w0 blk off d0) (hs : d0.size = d.size) (S : SWK enc k w0 blk off d w) (hab : a + n ≤ b) (hb : b + n ≤ d.size) (hsz : d.size < 4611686018427387904) :
 Calls P 101 #[.slice (some ⟨blk, off, none⟩) d.size cap, .int .i64 a, .int .i64 b, .int .i64 n, .func (.func g) #[] cb] w fun e w' => e = .returned (.tuple #[]) ∧ ∃ d', Sw a b n d d' ∧ SWK enc k w0 blk off d' w' := by
 have mixed := L.mixed
 have t0 := L.t0
 have a0 := L.a0
 have z0 := L.z0
 have v0 := L.v0
 have t3 := L.t3
 have a3 := L.a3
 have z3 := L.z3
 have v3 := L.v3
 have t4 := L.t4
 have a4 := L.a4
 have z4 := L.z4
 have v4 := L.v4
 have t22 := L.t22
 have a22 := L.a22
 have z22 := L.z22
 have v22 := L.v22
 have t25 := L.t25
 have a25 := L.a25
 have z25 := L.z25
 have v25 := L.v25
 have tu := L.tu
 have au := L.au
 have zu := L.zu
 have vu := L.vu
 have S0 : Aside (SWK enc k w0 blk off d w) := S
 clear S
 go_enter L.fS, Try.ntmps101
 go_wp2
 go_loopg [10] n (fun kx s10 wr => ∃ (i : Nat) (dk : Array α), s10 = .int .i64 i ∧ i ≤ n ∧ n - i ≤ kx ∧ dk.size = d.size ∧ Aside (Sw a b i d dk) ∧ Aside (SWK enc k w0 blk off dk wr))
 case atStart => exact ⟨0, d, rfl, Nat.zero_le _, Nat.le_refl _, rfl, Sw.zero a b d, S0⟩
 case round =>
  clear S0
  obtain ⟨i, dk, rfl, hi, hkx, hds, HS, S1⟩ := hrel
  by_cases hlt : i < n
  · have hltz : (i : Int) < (n : Int) := by omega
    go_wp2_with fail
    have ea1 : ((a : Int) + (i : Int)).toNat = a + i := by omega
    have pa1 : (0 : Int) ≤ (a : Int) + (i : Int) := by omega
    have ba1 : (a : Int) + (i : Int) < (d.size : Int) := by omega
    have ra1 : IntKind.i64.wrap ((a : Int) + (i : Int)) = (a : Int) + (i : Int) := by rw [IntKind.wrap_i64]; omega
    have ec1 : ((b : Int) + (i : Int)).toNat = b + i := by omega
    have pc1 : (0 : Int) ≤ (b : Int) + (i : Int) := by omega
    have bc1 : (b : Int) + (i : Int) < (d.size : Int) := by omega
    have rc1 : IntKind.i64.wrap ((b : Int) + (i : Int)) = (b : Int) + (i : Int) := by rw [IntKind.wrap_i64]; omega
    have S2 : Aside (SWK enc k w0 blk off (swp dk (a + i) (b + i)) ((wr.drew.setCells blk (off + (a + i) * k) (enc dk[b + i]!)).setCells blk (off + (b + i) * k) (enc dk[a + i]!))) := S1.out.swapped R (a + i) (b + i) (by omega) (by omega)
    have l1a := S1.out.ld1 R (by omega) P (a + i) (by omega)
    have l1b := S1.out.ld1 R (by omega) P (b + i) (by omega)
    have s1a := S1.out.st1 R (by omega) P (a + i) (by omega) dk[b + i]!
    have s1b := S1.out.st2 R (by omega) P (a + i) (b + i) (by omega) (by omega) dk[b + i]! dk[a + i]!
    have n1a : (enc dk[a + i]!).length = k := R.hk _
    have n1b : (enc dk[b + i]!).length = k := R.hk _
    generalize enc dk[a + i]! = cI1 at S2 l1a s1b n1a
    generalize enc dk[b + i]! = cJ1 at S2 l1b s1a s1b n1b
    clear S1
    go_wp2_with fail
    go_big_region_o
    clear l1a l1b s1a s1b
    generalize (wr.drew.setCells blk (off + (a + i) * k) cJ1).setCells blk (off + (b + i) * k) cI1 = w2 at S2 ⊢
    go_wp2
    go_roundg (n - (i + 1))
    case measure => omega
    case rel => exact ⟨i + 1, swp dk (a + i) (b + i), by go_num, by omega, Nat.le_refl _, by rw [size_swp]; exact hds, HS.out.step (by omega) (by omega), S2⟩
  · have hltz : ¬ (i : Int) < (n : Int) := by omega
    obtain rfl : i = n := by omega
    go_wp2
    go_end0
    exact ⟨rfl, dk, HS.out, S1.out⟩
set_option maxHeartbeats 4000000 in
set_option maxRecDepth 1000000 in
theorem rotate (L : StL P) (k : Nat) (aE : ∀ w, (isAgg 35).run P w = .ok true w) (zE : ∀ w, (Go.sizeOf 35).run P w = .ok k w) (enc : α → List Value) (g : Nat) (cb : Array Value) (blk off cap a m b : Nat) (d0 d : Array α) (w0 w : World)
 (R : RowK enc k w0 blk off d0) (hs : d0.size = d.size) (S : SWK enc k w0 blk off d w) (ham : a < m) (hmb : m < b) (hb : b ≤ d.size) (hsz : d.size < 4611686018427387904) :
 Calls P 93 #[.slice (some ⟨blk, off, none⟩) d.size cap, .int .i64 a, .int .i64 m, .int .i64 b, .func (.func g) #[] cb] w fun e w' => e = .returned (.tuple #[]) ∧ ∃ d', Rot a m b d d' ∧ SWK enc k w0 blk off d' w' := by
 have mixed := L.mixed
 have t0 := L.t0
 have a0 := L.a0
 have z0 := L.z0
 have v0 := L.v0
 have t3 := L.t3
 have a3 := L.a3
 have z3 := L.z3
 have v3 := L.v3
 have t4 := L.t4
 have a4 := L.a4
 have z4 := L.z4
 have v4 := L.v4
 have t22 := L.t22
 have a22 := L.a22
 have z22 := L.z22
 have v22 := L.v22
 have t25 := L.t25
 have a25 := L.a25
 have z25 := L.z25
 have v25 := L.v25
 have tu := L.tu
 have au := L.au
 have zu := L.zu
 have vu := L.vu
 have eS : ∀ args w, (callFunc 101 args).run P w = .ok (.enter 101 args) w := enters_of L.fS (by kernel_rfl) rfl
 have S0 : Aside (SWK enc k w0 blk off d w) := S
 clear S
 go_enter L.fR, Try.ntmps93
 go_wp2
 go_loopg [10, 11] (b - a) (fun kx s10 s11 wr => ∃ (i j : Nat) (dk : Array α), s10 = .int .i64 i ∧ s11 = .int .i64 j ∧ 1 ≤ i ∧ 1 ≤ j ∧ i + a ≤ m ∧ m + j ≤ b ∧ i + j ≤ kx ∧ dk.size = d.size ∧
  Aside (∀ d', Rot (m - i) m (m + j) dk d' → Rot a m b d d') ∧ Aside (SWK enc k w0 blk off dk wr))
 case atStart => exact ⟨m - a, b - m, d, by go_num, by go_num, by omega, by omega, by omega, by omega, by omega, rfl, fun d' h => by rw [show m - (m - a) = a by omega, show m + (b - m) = b by omega] at h; exact h, S0⟩
 case round =>
  clear S0
  obtain ⟨i, j, dk, rfl, rfl, hi, hj, him, hjb, hkx, hds, HR, S1⟩ := hrel
  have ri : IntKind.i64.wrap ((m : Int) - (i : Int)) = (m : Int) - (i : Int) := by rw [IntKind.wrap_i64]; omega
  rcases Nat.lt_trichotomy i j with hij | hij | hij
  · have hne : ¬ (i : Int) = (j : Int) := by omega
    have hgt : ¬ (j : Int) < (i : Int) := by omega
    have r1 : IntKind.i64.wrap ((m : Int) + (j : Int)) = (m : Int) + (j : Int) := by rw [IntKind.wrap_i64]; omega
    have r2 : IntKind.i64.wrap ((m : Int) + (j : Int) - (i : Int)) = (m : Int) + (j : Int) - (i : Int) := by rw [IntKind.wrap_i64]; omega
    have hsw := swapRange L k aE zE enc g cb blk off cap (m - i) (m + j - i) i d0 dk w0 wr R (by omega) S1.out (by omega) (by omega) (by omega)
    rw [hds, show ((m - i : Nat) : Int) = (m : Int) - (i : Int) by omega, show ((m + j - i : Nat) : Int) = (m : Int) + (j : Int) - (i : Int) by omega] at hsw
    go_wp2_with (go_at_fn 101; refine hsw.mono ?_; rintro e w1 ⟨rfl, d1, h1, S2⟩)
    go_roundg (i + (j - i))
    case measure => omega
    case rel => exact ⟨i, j - i, d1, rfl, by go_num, hi, by omega, him, by omega, Nat.le_refl _, h1.1.trans hds, fun d' h => HR.out d' (Rot.less hij (by omega) h1 h), S2⟩
  · subst hij
    have hsw := swapRange L k aE zE enc g cb blk off cap (m - i) m i d0 dk w0 wr R (by omega) S1.out (by omega) (by omega) (by omega)
    rw [hds, show ((m - i : Nat) : Int) = (m : Int) - (i : Int) by omega] at hsw
    go_wp2_with (go_at_fn 101; refine hsw.mono ?_; rintro e w1 ⟨rfl, d1, h1, S2⟩)
    go_end0
    exact ⟨rfl, d1, HR.out d1 (Rot.of_sw (by omega) h1), S2⟩
  · have hne : ¬ (i : Int) = (j : Int) := by omega
    have hgt : (j : Int) < (i : Int) := by omega
    have hsw := swapRange L k aE zE enc g cb blk off cap (m - i) m j d0 dk w0 wr R (by omega) S1.out (by omega) (by omega) (by omega)
    rw [hds, show ((m - i : Nat) : Int) = (m : Int) - (i : Int) by omega] at hsw
    go_wp2_with (go_at_fn 101; refine hsw.mono ?_; rintro e w1 ⟨rfl, d1, h1, S2⟩)
    go_roundg (i - j + j)
    case measure => omega
    case rel => exact ⟨i - j, j, d1, by go_num, rfl, by omega, hj, by omega, hjb, Nat.le_refl _, h1.1.trans hds, fun d' h => HR.out d' (Rot.more hij (by omega) h1 h), S2⟩
end
end Go.Proofs.Ytamhfjlffacakaa.St
namespace Go.Proofs.Ytamhfjlffacakaa.St
open Go.Sort
section
variable {α : Type} [Inhabited α] {lt : α → α → Bool}
inductive Runs (lt : α → α → Bool) (bs n : Nat) (d : Array α) : Nat → Prop
 | fin {a : Nat} (h : n ≤ a) : Runs lt bs n d a
 | run {a : Nat} (h : SortedIn lt a (min (a + bs) n) d) (t : Runs lt bs n d (a + bs)) : Runs lt bs n d a
inductive Done (lt : α → α → Bool) (bs : Nat) (d : Array α) : Nat → Prop
 | zero : Done lt bs d 0
 | run {a : Nat} (h : Done lt bs d a) (t : SortedIn lt a (a + bs) d) : Done lt bs d (a + bs)
theorem Runs.open {bs n a : Nat} {d : Array α} (h : Runs lt bs n d a) (ha : a < n) : SortedIn lt a (min (a + bs) n) d ∧ Runs lt bs n d (a + bs) := by
 cases h with
 | fin h => omega
 | run h t => exact ⟨h, t⟩
theorem Runs.same {bs n a : Nat} {d d' : Array α} (h : Runs lt bs n d a) (he : ∀ i, a ≤ i → d'[i]! = d[i]!) : Runs lt bs n d' a := by
 induction h with
 | fin h => exact .fin h
 | run h t ih => exact .run (si_same h fun i i1 _ => he i i1) (ih fun i hi => he i (by omega))
theorem Done.same {bs a : Nat} {d d' : Array α} (h : Done lt bs d a) (he : ∀ i, i < a → d'[i]! = d[i]!) : Done lt bs d' a := by
 induction h with
 | zero => exact .zero
 | run h t ih => exact .run (ih fun i hi => he i (by omega)) (si_same t fun i _ i2 => he i i2)
theorem Done.all {bs n a : Nat} {d : Array α} (h : Done lt bs d a) (hr : Runs lt bs n d a) (ha : a ≤ n) : Runs lt bs n d 0 := by
 induction h with
 | zero => exact hr
 | run h t ih => exact ih (.run (si_part t (Nat.le_refl _) (by omega)) hr) (by omega)
theorem Runs.last {bs n a : Nat} {d : Array α} (h : SortedIn lt a n d) (hb : n ≤ a + bs) : Runs lt bs n d a := .run (si_part h (Nat.le_refl _) (by omega)) (.fin hb)
def Pm (lt : α → α → Bool) (d d' : Array α) : Prop := PermIn 0 d.size d d' ∧ Stab lt d d'
theorem Pm.refl (d : Array α) : Pm lt d d := ⟨permIn_refl d 0 d.size, Stab.refl d⟩
theorem Pm.next {d d1 d2 : Array α} {a b : Nat} (h : Pm lt d d1) (k : Srt lt a b d1 d2) (hb : b ≤ d.size) : Pm lt d d2 :=
 ⟨permIn_trans _ _ _ _ _ h.1 (permIn_mono _ _ a b 0 d.size (Nat.zero_le _) hb (by rw [h.1.1]; exact Nat.le_refl _) k.perm), h.2.trans k.stab⟩
theorem Pm.done {d d' : Array α} (h : Pm lt d d') (ho : SortedIn lt 0 d.size d') : Srt lt 0 d.size d d' := ⟨h.1, h.2, ho⟩
end
end Go.Proofs.Ytamhfjlffacakaa.St
namespace Go.Proofs.Ytamhfjlffacakaa.Pr
open Ov Tp Va
def bs1 (p : Pr) : List UInt8 := (nb p.1.length ++ p.1) ++ vb p.2
def lbs (l : List Pr) : List UInt8 := l.flatMap bs1
def lb (l : List Pr) : List UInt8 := nb l.length ++ lbs l
def rp (p : Pr) : Bool := decide (p.1.length ≤ 64) && rt p.2
def rl (l : List Pr) : Bool := l.all rp
theorem rl_iff (l : List Pr) : rl l = true ↔ ∀ p ∈ l, rp p = true := by unfold rl; simp
end Go.Proofs.Ytamhfjlffacakaa.Pr
namespace Go.Proofs.Ytamhfjlffacakaa.Va
open Go.ChangeShapes Go.WideShapes Go.ChangeAt Go.RowKit Ov Ga
theorem over_id {w : World} {P : Program} {f : FuncId} {args : Array Value} {v : Value} (q : Over w) (h : Calls P f args q.val fun e w' => e = .returned v ∧ q.val = w') :
 Calls P f args q.val fun e w' => e = .returned v ∧ ∃ q' : Over w, w' = q'.val := h.mono fun _ _ ⟨he, hw⟩ => ⟨he, q, hw.symm⟩
def orl : List Int → Int
 | [] => 0
 | a :: t => if a ≠ 0 then a else orl t
theorem orl4 (a b c d : Int) : orl [a, b, c, d] = or4 a b c d := by
 unfold or4; simp only [orl]
 split
 · rfl
 · split
   · rfl
   · split
     · rfl
     · split
       · rfl
       · omega
theorem orl_drop {l : List Int} {k : Nat} (h : k < l.length) : orl (l.drop k) = if l[k] ≠ 0 then l[k] else orl (l.drop (k + 1)) := by
 rw [List.drop_eq_getElem_cons h]; rfl
set_option maxHeartbeats 1000000 in
theorem or_any (l : List Int) (b : Nat) (w : World) (h : Blk w b (l.map fun a => Value.int .i64 a)) (hl : l.length ≤ 4) : Calls Try.prog 58 #[.slice (some ⟨b, 0, none⟩) l.length l.length] w fun e w' => e = .returned (.int .i64 (orl l)) ∧ w = w' := by
 have H := Lib.hid h; clear h
 obtain ⟨n, hn⟩ : ∃ n, l.length = n := ⟨_, rfl⟩
 rw [hn] at hl ⊢
 have HN := Lib.hid hn; clear hn
 go_enter Try.func58, Try.ntmps58
 go_wp2_with (fail)
 go_loop [5, 8] (fun _ i => ∃ k : Nat, k ≤ n ∧ i = .int .i64 k ∧ orl l = orl (l.drop k)) (fun _ i => n - (intOf i).toNat)
 case atStart => exact ⟨0, Nat.zero_le _, rfl, by simp⟩
 case round =>
  obtain ⟨k, hk, rfl, hd⟩ := hrel
  have HD := Lib.hid hd; clear hd
  by_cases hlt : k < n
  · have hkl : k < l.length := by have := HN.out; omega
    obtain ⟨a, ha⟩ : ∃ a, l[k] = a := ⟨_, rfl⟩
    have HS : Hid (orl (l.drop k) = if a ≠ 0 then a else orl (l.drop (k + 1))) := by
     show _ = _
     rw [orl_drop hkl, ha]
    have hc : w.cell? ⟨b, k, none⟩ = some (.int .i64 a) := H.out.c k _ (by rw [List.getElem?_map, List.getElem?_eq_getElem hkl, ha]; rfl)
    clear ha hkl
    by_cases hz : a = 0
    · subst hz
      go_wp2_with (fail)
      go_round
      case rel => exact ⟨k + 1, by omega, by go_num, by rw [HD.out, HS.out]; rfl⟩
      case measure => simp [intOf]; omega
    · have hne : (a != 0) = true := bne_iff_ne.2 hz
      have HZ := Lib.hid hz; clear hz
      go_wp2_with (fail)
      go_ret
      exact ⟨ret_int (by rw [HD.out, HS.out, if_pos HZ.out]), rfl⟩
  · have HS : Hid (orl (l.drop k) = 0) := by
     show _ = _
     rw [List.drop_of_length_le (by have := HN.out; omega)]; rfl
    go_wp2_with (fail)
    go_ret
    exact ⟨ret_int (by rw [HD.out, HS.out]), rfl⟩
set_option maxHeartbeats 1000000 in
theorem spots_any (x y u v : Int) (w : World) : Calls Try.prog 88 #[.agg #[.int .i64 x, .int .i64 y], .agg #[.int .i64 u, .int .i64 v]] w (Gives (.int .i64 (cP x y u v)) w) := by
 have H1 := Lib.hid (less_any x y u v)
 have H2 := Lib.hid (less_any u v x y)
 have he : cP x y u v = if decide (x < u ∨ x = u ∧ y < v) = true then -1 else if decide (u < x ∨ u = x ∧ v < y) = true then 1 else 0 := by
  unfold cP; simp only [decide_eq_true_eq]
 rw [he]; clear he
 generalize decide (x < u ∨ x = u ∧ y < v) = p at *
 generalize decide (u < x ∨ u = x ∧ v < y) = q at *
 cases p
 · cases q
   · go_enter Try.func88, Try.ntmps88
     go_wp2_with (fail)
     refine (H1.out _).mono ?_
     rintro e w1 ⟨rfl, hb⟩
     have HB := Lib.hid (Below.next (box2 w _ _) hb)
     have D1 := ((Blk.made w 31 [.int .i64 x, .int .i64 y] rfl).old (.cells #[.int .i64 u, .int .i64 v] 31)).next hb
     have D2 := (Blk.made (w.alloc (.cells #[.int .i64 x, .int .i64 y] 31)) 31 [.int .i64 u, .int .i64 v] (World.size_alloc _ _)).next hb
     have c0 := D1.c 0 _ rfl
     have c1 := D1.c 1 _ rfl
     have c2 := D2.c 0 _ rfl
     have c3 := D2.c 1 _ rfl
     clear hb D1 D2
     go_wp2_with (fail)
     clear c0 c1 c2 c3
     refine (H2.out _).mono ?_
     rintro e w2 ⟨rfl, hb⟩
     have HB2 := Lib.hid (Below.next HB.out hb)
     clear hb
     go_wp2_with (fail)
     go_ret
     exact ⟨rfl, HB2.out⟩
   · go_enter Try.func88, Try.ntmps88
     go_wp2_with (fail)
     refine (H1.out _).mono ?_
     rintro e w1 ⟨rfl, hb⟩
     have HB := Lib.hid (Below.next (box2 w _ _) hb)
     have D1 := ((Blk.made w 31 [.int .i64 x, .int .i64 y] rfl).old (.cells #[.int .i64 u, .int .i64 v] 31)).next hb
     have D2 := (Blk.made (w.alloc (.cells #[.int .i64 x, .int .i64 y] 31)) 31 [.int .i64 u, .int .i64 v] (World.size_alloc _ _)).next hb
     have c0 := D1.c 0 _ rfl
     have c1 := D1.c 1 _ rfl
     have c2 := D2.c 0 _ rfl
     have c3 := D2.c 1 _ rfl
     clear hb D1 D2
     go_wp2_with (fail)
     clear c0 c1 c2 c3
     refine (H2.out _).mono ?_
     rintro e w2 ⟨rfl, hb⟩
     have HB2 := Lib.hid (Below.next HB.out hb)
     clear hb
     go_wp2_with (fail)
     go_ret
     exact ⟨rfl, HB2.out⟩
 · go_enter Try.func88, Try.ntmps88
   go_wp2_with (fail)
   refine (H1.out _).mono ?_
   rintro e w1 ⟨rfl, hb⟩
   have HB := Lib.hid (Below.next (box2 w _ _) hb)
   have D1 := ((Blk.made w 31 [.int .i64 x, .int .i64 y] rfl).old (.cells #[.int .i64 u, .int .i64 v] 31)).next hb
   have D2 := (Blk.made (w.alloc (.cells #[.int .i64 x, .int .i64 y] 31)) 31 [.int .i64 u, .int .i64 v] (World.size_alloc _ _)).next hb
   have c0 := D1.c 0 _ rfl
   have c1 := D1.c 1 _ rfl
   have c2 := D2.c 0 _ rfl
   have c3 := D2.c 1 _ rfl
   clear hb D1 D2
   go_wp2_with (fail)
   go_ret
   exact ⟨rfl, HB.out⟩
set_option maxHeartbeats 4000000 in
theorem order_val (k n x y k' n' x' y' : Int) (s s' : ByteArray) (w : World) : Calls Try.prog 78 #[.agg #[.int .i64 k, .int .i64 n, .string s, .int .i64 x, .int .i64 y], .agg #[.int .i64 k', .int .i64 n', .string s', .int .i64 x', .int .i64 y']] w
 (Gives (.int .i64 (ord ⟨k, n, s.data.toList, x, y⟩ ⟨k', n', s'.data.toList, x', y'⟩)) w) := by
 have HI := Lib.hid cmpI_any
 have HS := Lib.hid (cmpS_any s s')
 have HP := Lib.hid (spots_any x y x' y')
 have HE : Hid (ord ⟨k, n, s.data.toList, x, y⟩ ⟨k', n', s'.data.toList, x', y'⟩ = orl [cI k k', cI n n', cS s.data.toList s'.data.toList, cP x y x' y']) := by
  show _ = _
  rw [orl4]; rfl
 generalize cS s.data.toList s'.data.toList = c3 at *
 generalize cP x y x' y' = c4 at *
 go_enter Try.func78, Try.ntmps78
 go_wp2_with (fail)
 have kb := Lib.hid (box2 w (.cells #[.int .i64 k, .int .i64 n, .string s, .int .i64 x, .int .i64 y] 33) (.cells #[.int .i64 k', .int .i64 n', .string s', .int .i64 x', .int .i64 y'] 33))
 have D := (Blk.made w 33 (vcs k n s x y) rfl).old (.cells #[.int .i64 k', .int .i64 n', .string s', .int .i64 x', .int .i64 y'] 33)
 have E := Blk.made (w.alloc (.cells #[.int .i64 k, .int .i64 n, .string s, .int .i64 x, .int .i64 y] 33)) 33 (vcs k' n' s' x' y') (World.size_alloc _ _)
 change Blk ((w.alloc (.cells #[.int .i64 k, .int .i64 n, .string s, .int .i64 x, .int .i64 y] 33)).alloc (.cells #[.int .i64 k', .int .i64 n', .string s', .int .i64 x', .int .i64 y'] 33)) w.heap.size _ at D
 change Blk ((w.alloc (.cells #[.int .i64 k, .int .i64 n, .string s, .int .i64 x, .int .i64 y] 33)).alloc (.cells #[.int .i64 k', .int .i64 n', .string s', .int .i64 x', .int .i64 y'] 33)) (w.heap.size + 1) _ at E
 generalize (w.alloc (.cells #[.int .i64 k, .int .i64 n, .string s, .int .i64 x, .int .i64 y] 33)).alloc (.cells #[.int .i64 k', .int .i64 n', .string s', .int .i64 x', .int .i64 y'] 33) = v at *
 have d0 := fun r : Over v => (D.over r).v0
 have d1 := fun r : Over v => (D.over r).v1
 have d2 := fun r : Over v => (D.over r).v2
 have d3 := fun r : Over v => (D.over r).v3
 have d4 := fun r : Over v => (D.over r).v4
 have e0 := fun r : Over v => (E.over r).v0
 have e1 := fun r : Over v => (E.over r).v1
 have e2 := fun r : Over v => (E.over r).v2
 have e3 := fun r : Over v => (E.over r).v3
 have e4 := fun r : Over v => (E.over r).v4
 clear D E
 refine wp_over_tail 20 (by kernel_rfl) (by kernel_rfl) ?_
 simp only [List.take_succ_cons, List.take_zero, List.drop_succ_cons, List.drop_zero]
 repeat (go_big_quiet_step (first | fail | with_reducible exact over_id _ (HI.out _ _ _) | with_reducible exact over_id _ (HS.out _) | with_reducible exact over_gives _ (HP.out _)))
 refine wpQuiet_nil ?_
 rintro w2 ⟨⟨w2, hb⟩, rfl⟩
 have HB := Lib.hid (Below.next kb.out hb)
 clear hb kb d0 d1 d2 d3 d4 e0 e1 e2 e3 e4
 go_wp2_with (fail)
 refine (or_any [cI k k', cI n n', c3, c4] w2.heap.size _ (Blk.made w2 3 [.int .i64 (cI k k'), .int .i64 (cI n n'), .int .i64 c3, .int .i64 c4] rfl) (Nat.le_refl _)).mono ?_
 rintro e w' ⟨rfl, rfl⟩
 have HB2 := Lib.hid (Below.next HB.out (box1 w2 (.cells #[.int .i64 (cI k k'), .int .i64 (cI n n'), .int .i64 c3, .int .i64 c4] 3)))
 go_wp2_with (fail)
 go_ret
 exact ⟨ret_int HE.out.symm, HB2.out⟩
end Go.Proofs.Ytamhfjlffacakaa.Va
namespace Go.Proofs.Ytamhfjlffacakaa.Ov
open Go.ChangeShapes Go.WideShapes Go.ChangeAt Go.RowKit
structure Duo (w : World) (b : Nat) (u v : Value) : Prop where
 c0 : w.cell? ⟨b, 0, none⟩ = some u
 c1 : w.cell? ⟨b, 1, none⟩ = some v
 f0 : w.frozen? ⟨b, 0, none⟩ = false
 f1 : w.frozen? ⟨b, 1, none⟩ = false
section
variable {w w' : World} {b : Nat} {u v : Value}
theorem Duo.lt (h : Duo w b u v) : b < w.heap.size := block_lt_of_cell h.c0
theorem Duo.next (h : Duo w b u v) (k : Below w.heap.size w w') : Duo w' b u v :=
 ⟨(k.cell (p := ⟨b, 0, none⟩) h.lt).trans h.c0, (k.cell (p := ⟨b, 1, none⟩) h.lt).trans h.c1, (k.frozen (p := ⟨b, 0, none⟩) h.lt).trans h.f0, (k.frozen (p := ⟨b, 1, none⟩) h.lt).trans h.f1⟩
theorem Duo.old (h : Duo w b u v) (o : Obj) : Duo (w.alloc o) b u v := h.next ((Below.refl _ _).alloc (Nat.le_refl _) _)
theorem Duo.made (w : World) (t : TypeId) (u v : Value) : Duo (w.alloc (.cells #[u, v] t)) w.heap.size u v :=
 ⟨by simp [World.cell?_alloc_new], by simp [World.cell?_alloc_new], by simp [World.frozen?_alloc_new], by simp [World.frozen?_alloc_new]⟩
theorem Duo.drew (h : Duo w b u v) : Duo w.drew b u v := ⟨h.c0, h.c1, h.f0, h.f1⟩
theorem Duo.over (h : Duo w b u v) (q : Over w) : Duo q.val b u v := h.next q.property
theorem Duo.put (h : Duo w b u v) {c : Nat} (hc : c ≠ b) (o : Nat) (z : Value) : Duo (w.setCell ⟨c, o, none⟩ z) b u v :=
 ⟨by rw [World.cell?_setCell_other _ _ _ _ (fun e => hc (congrArg Addr.block e))]; exact h.c0, by rw [World.cell?_setCell_other _ _ _ _ (fun e => hc (congrArg Addr.block e))]; exact h.c1,
  by rw [World.frozen?_setCell]; exact h.f0, by rw [World.frozen?_setCell]; exact h.f1⟩
theorem Duo.put2 (h : Duo w b u v) {c : Nat} (hc : c ≠ b) (y z : Value) : Duo ((w.setCell ⟨c, 0, none⟩ y).setCell ⟨c, 1, none⟩ z) b u v := (h.put hc 0 y).put hc 1 z
theorem Duo.set (h : Duo w b u v) (y z : Value) : Duo ((w.setCell ⟨b, 0, none⟩ y).setCell ⟨b, 1, none⟩ z) b y z := by
 have n1 : (⟨b, 0, none⟩ : Addr) ≠ ⟨b, 1, none⟩ := fun e => by injection e with _ e; cases e
 have c0 : (w.setCell ⟨b, 0, none⟩ y).cell? ⟨b, 0, none⟩ = some y := World.cell?_setCell_same _ _ _ h.c0
 have c1 : (w.setCell ⟨b, 0, none⟩ y).cell? ⟨b, 1, none⟩ = some v := by rw [World.cell?_setCell_other _ _ _ _ n1]; exact h.c1
 exact ⟨by rw [World.cell?_setCell_other _ _ _ _ n1.symm]; exact c0, World.cell?_setCell_same _ _ _ c1, by rw [World.frozen?_setCell, World.frozen?_setCell]; exact h.f0, by rw [World.frozen?_setCell, World.frozen?_setCell]; exact h.f1⟩
theorem below_put2 {B : Nat} {a : World} (h : Below B a w) {c : Nat} (hc : B ≤ c) (y z : Value) : Below B a ((w.setCell ⟨c, 0, none⟩ y).setCell ⟨c, 1, none⟩ z) := (h.setCell (p := ⟨c, 0, none⟩) hc y).setCell (p := ⟨c, 1, none⟩) hc z
theorem Holds.duo {t : TypeId} {y : World} (h : Holds w (.cells #[u, v] t) b y) : Duo y b u v := ⟨h.cell 0, h.cell 1, h.frozen 0, h.frozen 1⟩
theorem Duo.made1 (w : World) (a : Obj) (t : TypeId) (u v : Value) : Duo ((w.alloc a).alloc (.cells #[u, v] t)) (w.heap.size + 1) u v := by
 have h := Duo.made (w.alloc a) t u v; rwa [World.size_alloc] at h
theorem Duo.made2 (w : World) (a b : Obj) (t : TypeId) (u v : Value) : Duo (((w.alloc a).alloc b).alloc (.cells #[u, v] t)) (w.heap.size + 1 + 1) u v := by
 have h := Duo.made ((w.alloc a).alloc b) t u v; rwa [World.size_alloc, World.size_alloc] at h
theorem Duo.made3 (w : World) (a b c : Obj) (t : TypeId) (u v : Value) : Duo ((((w.alloc a).alloc b).alloc c).alloc (.cells #[u, v] t)) (w.heap.size + 1 + 1 + 1) u v := by
 have h := Duo.made (((w.alloc a).alloc b).alloc c) t u v; rwa [World.size_alloc, World.size_alloc, World.size_alloc] at h
variable (t : TypeId) (x1 y1 x2 y2 x3 y3 x4 y4 : Value)
theorem boxes2 (w : World) : Below w.heap.size w ((w.alloc (.cells #[x1, y1] t)).alloc (.cells #[x2, y2] t)) ∧
 Duo ((w.alloc (.cells #[x1, y1] t)).alloc (.cells #[x2, y2] t)) w.heap.size x1 y1 ∧ Duo ((w.alloc (.cells #[x1, y1] t)).alloc (.cells #[x2, y2] t)) (w.heap.size + 1) x2 y2 :=
 ⟨box2 w _ _, (Duo.made w t x1 y1).old _, Duo.made1 w _ t x2 y2⟩
theorem boxes3 (w : World) : Below w.heap.size w (((w.alloc (.cells #[x1, y1] t)).alloc (.cells #[x2, y2] t)).alloc (.cells #[x3, y3] t)) ∧
 Duo (((w.alloc (.cells #[x1, y1] t)).alloc (.cells #[x2, y2] t)).alloc (.cells #[x3, y3] t)) w.heap.size x1 y1 ∧ Duo (((w.alloc (.cells #[x1, y1] t)).alloc (.cells #[x2, y2] t)).alloc (.cells #[x3, y3] t)) (w.heap.size + 1) x2 y2 ∧
 Duo (((w.alloc (.cells #[x1, y1] t)).alloc (.cells #[x2, y2] t)).alloc (.cells #[x3, y3] t)) (w.heap.size + 1 + 1) x3 y3 :=
 ⟨box3 w _ _ _, ((Duo.made w t x1 y1).old _).old _, (Duo.made1 w _ t x2 y2).old _, Duo.made2 w _ _ t x3 y3⟩
theorem boxes4 (w : World) : Below w.heap.size w ((((w.alloc (.cells #[x1, y1] t)).alloc (.cells #[x2, y2] t)).alloc (.cells #[x3, y3] t)).alloc (.cells #[x4, y4] t)) ∧
 Duo ((((w.alloc (.cells #[x1, y1] t)).alloc (.cells #[x2, y2] t)).alloc (.cells #[x3, y3] t)).alloc (.cells #[x4, y4] t)) w.heap.size x1 y1 ∧
 Duo ((((w.alloc (.cells #[x1, y1] t)).alloc (.cells #[x2, y2] t)).alloc (.cells #[x3, y3] t)).alloc (.cells #[x4, y4] t)) (w.heap.size + 1) x2 y2 ∧
 Duo ((((w.alloc (.cells #[x1, y1] t)).alloc (.cells #[x2, y2] t)).alloc (.cells #[x3, y3] t)).alloc (.cells #[x4, y4] t)) (w.heap.size + 1 + 1) x3 y3 ∧
 Duo ((((w.alloc (.cells #[x1, y1] t)).alloc (.cells #[x2, y2] t)).alloc (.cells #[x3, y3] t)).alloc (.cells #[x4, y4] t)) (w.heap.size + 1 + 1 + 1) x4 y4 :=
 ⟨box4 w _ _ _ _, (((Duo.made w t x1 y1).old _).old _).old _, ((Duo.made1 w _ t x2 y2).old _).old _, (Duo.made2 w _ _ t x3 y3).old _, Duo.made3 w _ _ _ t x4 y4⟩
end
end Go.Proofs.Ytamhfjlffacakaa.Ov
namespace Go.Proofs.Ytamhfjlffacakaa.Ga
open Go.ChangeShapes Go.WideShapes Go.ChangeAt Go.RowKit Ov
theorem alloc_spot (ρ : Operand → Value) (x : World) (d : Tmp) (p : String) (e : Array Edge) : (execOp ρ { dst := some d, op := Op.alloc 31, type := 0, pos := p, after := e, guard := none }).run Try.prog x = .ok (.value (.pointer (some ⟨x.heap.size, 0, none⟩))) (x.alloc (.cells #[.int .i64 0, .int .i64 0] 31)) := by
 simp [execOp, go_sem]
set_option maxHeartbeats 2000000 in
theorem divide_core (x y u v v' z1 z2 n q1 q2 r1 r2 : Int) (fx fy fu fv fv' fp fq re im re2 im2 re3 im3 : Nat) (w : World)
 (HC1 : Hid (∀ w, Calls Try.prog 96 #[.agg #[.int .i64 x, .int .i64 y]] w (Gives (.complex .f64 fx fy) w)))
 (HM : Hid (∀ w, Calls Try.prog 97 #[.agg #[.int .i64 u, .int .i64 v]] w (Gives (.agg #[.int .i64 u, .int .i64 v']) w)))
 (HC2 : Hid (∀ w, Calls Try.prog 96 #[.agg #[.int .i64 u, .int .i64 v']] w (Gives (.complex .f64 fu fv') w)))
 (hm1 : ∀ w : World, (binOp .mul 122 (.complex .f64 fx fy) (.complex .f64 fu fv')).run Try.prog w = .ok (.complex .f64 re im) w)
 (HS1 : Hid (∀ w, Calls Try.prog 95 #[.complex .f64 re im] w (Gives (.agg #[.int .i64 z1, .int .i64 z2]) w)))
 (HN : Hid (∀ w, Calls Try.prog 98 #[.agg #[.int .i64 u, .int .i64 v]] w (Gives (.int .i64 n) w)))
 (HQ1 : Hid (∀ w, Calls Try.prog 99 #[.int .i64 z1, .int .i64 n] w (Gives (.int .i64 q1) w)))
 (HQ2 : Hid (∀ w, Calls Try.prog 99 #[.int .i64 z2, .int .i64 n] w (Gives (.int .i64 q2) w)))
 (HC3 : Hid (∀ w, Calls Try.prog 96 #[.agg #[.int .i64 q1, .int .i64 q2]] w (Gives (.complex .f64 fp fq) w)))
 (HC4 : Hid (∀ w, Calls Try.prog 96 #[.agg #[.int .i64 u, .int .i64 v]] w (Gives (.complex .f64 fu fv) w)))
 (hm2 : ∀ w : World, (binOp .mul 122 (.complex .f64 fp fq) (.complex .f64 fu fv)).run Try.prog w = .ok (.complex .f64 re2 im2) w)
 (hm3 : ∀ w : World, (binOp .sub 122 (.complex .f64 fx fy) (.complex .f64 re2 im2)).run Try.prog w = .ok (.complex .f64 re3 im3) w)
 (HS2 : Hid (∀ w, Calls Try.prog 95 #[.complex .f64 re3 im3] w (Gives (.agg #[.int .i64 r1, .int .i64 r2]) w))) :
 Calls Try.prog 91 #[.agg #[.int .i64 x, .int .i64 y], .agg #[.int .i64 u, .int .i64 v]] w (Gives (.tuple #[.agg #[.int .i64 q1, .int .i64 q2], .agg #[.int .i64 r1, .int .i64 r2]]) w) := by
 go_enter Try.func91, Try.ntmps91
 go_wp2_with (fail)
 obtain ⟨hb, d2, d3, d4, d5⟩ := boxes4 31 (.int .i64 x) (.int .i64 y) (.int .i64 u) (.int .i64 v) (.int .i64 0) (.int .i64 0) (.int .i64 0) (.int .i64 0) w
 generalize (((w.alloc (.cells #[.int .i64 x, .int .i64 y] 31)).alloc (.cells #[.int .i64 u, .int .i64 v] 31)).alloc (.cells #[.int .i64 0, .int .i64 0] 31)).alloc (.cells #[.int .i64 0, .int .i64 0] 31) = w0 at *
 have HB := Lib.hid hb; clear hb
 have D2 := Lib.hid d2; have D3 := Lib.hid d3; have D4 := Lib.hid d4; have D5 := Lib.hid d5; clear d2 d3 d4 d5
 refine wp_over_alloc (O := .cells #[.int .i64 0, .int .i64 0] 31) 9 (by kernel_rfl) (by kernel_rfl) rfl rfl rfl (fun ρ x => alloc_spot ρ x _ _ _) (by kernel_rfl) ?_
 simp only [List.take_succ_cons, List.take_zero, List.drop_succ_cons, List.drop_zero]
 apply Exists.intro
 apply And.intro
 · intro x0
   have k1 : ∀ r : Over x0.val, r.val.cell? ⟨w.heap.size, 0, none⟩ = some (.int .i64 x) := fun r => ((D2.out.over x0).over r).c0
   have k2 : ∀ r : Over x0.val, r.val.cell? ⟨w.heap.size, 1, none⟩ = some (.int .i64 y) := fun r => ((D2.out.over x0).over r).c1
   have k3 : ∀ r : Over x0.val, r.val.cell? ⟨w.heap.size + 1, 0, none⟩ = some (.int .i64 u) := fun r => ((D3.out.over x0).over r).c0
   have k4 : ∀ r : Over x0.val, r.val.cell? ⟨w.heap.size + 1, 1, none⟩ = some (.int .i64 v) := fun r => ((D3.out.over x0).over r).c1
   repeat (go_big_quiet_step (first
    | with_reducible exact over_gives _ (HC1.out _)
    | with_reducible exact over_gives _ (HM.out _)
    | with_reducible exact over_gives _ (HC2.out _)
    | with_reducible exact over_gives _ (HS1.out _)
    | with_reducible exact over_gives _ (HN.out _)))
   refine wpQuiet_nil ?_
   rfl
 · rintro b w1 HO
   have hb := HO.1
   have DN := Lib.hid (HO.duo.set (.int .i64 z1) (.int .i64 z2))
   have hlo := HO.2.1
   obtain ⟨c0, c1, f0, f1⟩ := HO.duo
   have l2 := D2.out.lt; have l3 := D3.out.lt; have l4 := D4.out.lt; have l5 := D5.out.lt
   have E2 := Lib.hid ((D2.out.next hb).put2 (c := b) (by omega) (.int .i64 z1) (.int .i64 z2))
   have E3 := Lib.hid ((D3.out.next hb).put2 (c := b) (by omega) (.int .i64 z1) (.int .i64 z2))
   have E4 := Lib.hid ((D4.out.next hb).put2 (c := b) (by omega) (.int .i64 z1) (.int .i64 z2))
   have E5 := Lib.hid ((D5.out.next hb).put2 (c := b) (by omega) (.int .i64 z1) (.int .i64 z2))
   have HB2 := Lib.hid (below_put2 (Below.next HB.out hb) (c := b) (by omega) (.int .i64 z1) (.int .i64 z2))
   have hbl : b < w1.heap.size := block_lt_of_cell c0
   have HN4 : Hid (w.heap.size + 1 + 1 < b) := Lib.hid (by omega)
   have HN5 : Hid (w.heap.size + 1 + 1 + 1 < b) := Lib.hid (by omega)
   clear hb HO D2 D3 D4 D5 HB
   simp only [Act.put, List.setIfInBounds_toArray, List.set_cons_zero, List.set_cons_succ]
   go_wp2_with (fail)
   generalize ((w1.setCell ⟨b, 0, none⟩ (.int .i64 z1)).setCell ⟨b, 1, none⟩ (.int .i64 z2)) = w2 at *
   clear c0 c1 f0 f1 hbl hlo l2 l3 l4 l5
   have n2 : b ≠ w.heap.size + 1 + 1 := Nat.ne_of_gt HN4.out
   have n3 : b ≠ w.heap.size + 1 + 1 + 1 := Nat.ne_of_gt HN5.out
   refine wp_over_alloc (O := .cells #[.int .i64 0, .int .i64 0] 31) 9 (by kernel_rfl) (by kernel_rfl) rfl rfl rfl (fun ρ x => alloc_spot ρ x _ _ _) (by kernel_rfl) ?_
   simp only [List.take_succ_cons, List.take_zero, List.drop_succ_cons, List.drop_zero]
   apply Exists.intro
   apply And.intro
   · intro x0
     have k1 : ∀ r : Over x0.val, r.val.cell? ⟨b, 0, none⟩ = some (.int .i64 z1) := fun r => ((DN.out.over x0).over r).c0
     have k2 : ∀ r : Over x0.val, r.val.cell? ⟨b, 1, none⟩ = some (.int .i64 z2) := fun r => ((DN.out.over x0).over r).c1
     repeat (go_big_quiet_step (first
      | with_reducible exact over_gives _ (HQ1.out _)
      | with_reducible exact over_gives _ (HQ2.out _)))
     refine wpQuiet_nil ?_
     rfl
   · rintro c w3 HO
     have hb := HO.1
     have hlo := HO.2.1
     have l2 := E2.out.lt; have l3 := E3.out.lt; have l4 := E4.out.lt; have l5 := E5.out.lt
     have DC := Lib.hid (HO.duo.set (.int .i64 q1) (.int .i64 q2))
     have F2 := Lib.hid ((E2.out.next hb).put2 (c := c) (by omega) (.int .i64 q1) (.int .i64 q2))
     have F3 := Lib.hid ((E3.out.next hb).put2 (c := c) (by omega) (.int .i64 q1) (.int .i64 q2))
     have F4 := Lib.hid ((E4.out.next hb).put2 (c := c) (by omega) (.int .i64 q1) (.int .i64 q2))
     have F5 := Lib.hid ((E5.out.next hb).put2 (c := c) (by omega) (.int .i64 q1) (.int .i64 q2))
     have HB3 := Lib.hid (below_put2 (Below.next HB2.out hb) (c := c) (by have := HB2.out.size; omega) (.int .i64 q1) (.int .i64 q2))
     obtain ⟨c0, c1, f0, f1⟩ := HO.duo
     have hbl : c < w3.heap.size := block_lt_of_cell c0
     clear hb HO E2 E3 E4 E5 HB2 DN
     simp only [Act.put, List.setIfInBounds_toArray, List.set_cons_zero, List.set_cons_succ]
     go_wp2_with (fail)
     generalize ((w3.setCell ⟨c, 0, none⟩ (.int .i64 q1)).setCell ⟨c, 1, none⟩ (.int .i64 q2)) = w4 at *
     clear c0 c1 f0 f1 hbl hlo l2 l3 l4 l5
     have k1 : ∀ r : Over w4, r.val.cell? ⟨w.heap.size, 0, none⟩ = some (.int .i64 x) := fun r => (F2.out.over r).c0
     have k2 : ∀ r : Over w4, r.val.cell? ⟨w.heap.size, 1, none⟩ = some (.int .i64 y) := fun r => (F2.out.over r).c1
     have k3 : ∀ r : Over w4, r.val.cell? ⟨w.heap.size + 1, 0, none⟩ = some (.int .i64 u) := fun r => (F3.out.over r).c0
     have k4 : ∀ r : Over w4, r.val.cell? ⟨w.heap.size + 1, 1, none⟩ = some (.int .i64 v) := fun r => (F3.out.over r).c1
     have k5 : ∀ r : Over w4, r.val.cell? ⟨c, 0, none⟩ = some (.int .i64 q1) := fun r => (DC.out.over r).c0
     have k6 : ∀ r : Over w4, r.val.cell? ⟨c, 1, none⟩ = some (.int .i64 q2) := fun r => (DC.out.over r).c1
     refine wp_over_tail 10 (by kernel_rfl) (by kernel_rfl) ?_
     simp only [List.take_succ_cons, List.take_zero, List.drop_succ_cons, List.drop_zero]
     repeat (go_big_quiet_step (first
      | with_reducible exact over_gives _ (HC1.out _)
      | with_reducible exact over_gives _ (HC3.out _)
      | with_reducible exact over_gives _ (HC4.out _)
      | with_reducible exact over_gives _ (HS2.out _)))
     refine wpQuiet_nil ?_
     rintro w5 ⟨⟨w5, hb⟩, rfl⟩
     have HB4 := Lib.hid (Below.next HB3.out hb)
     obtain ⟨c0, c1, f0, f1⟩ := F4.out.next hb
     obtain ⟨e0, e1, g0, g1⟩ := F5.out.next hb
     have hz := (F5.out.next hb).lt
     have hz4 := (F4.out.next hb).lt
     clear hb k1 k2 k3 k4 k5 k6 n2 n3
     go_wp2_with (fail)
     refine bodyPost_ret (v := .tuple #[.agg #[.int .i64 q1, .int .i64 q2], .agg #[.int .i64 r1, .int .i64 r2]]) (by simp [results, Try.results91, go_sem, c0, c1, e0, e1]) rfl ⟨rfl, ?_⟩
     exact below_put2 (below_put2 HB4.out (c := w.heap.size + 1 + 1) (by omega) _ _) (c := w.heap.size + 1 + 1 + 1) (by omega) _ _
theorem sum_le {a b : Int} (h1 : -281474976710656 ≤ a ∧ a ≤ 281474976710656) (h2 : -281474976710656 ≤ b ∧ b ≤ 281474976710656) :
 (-562949953421312 ≤ a + b ∧ a + b ≤ 562949953421312) ∧ (-562949953421312 ≤ a - b ∧ a - b ≤ 562949953421312) := by omega
theorem run_csub {x y p q : Int} {re im : Nat} (hx : -16777216 ≤ x ∧ x ≤ 16777216) (hy : -16777216 ≤ y ∧ y ≤ 16777216) (hr : Is re p) (hi : Is im q) (hp : -562949953421312 ≤ p ∧ p ≤ 562949953421312) (hq : -562949953421312 ≤ q ∧ q ≤ 562949953421312) :
 ∃ a b, (∀ w : World, (binOp .sub 122 (.complex .f64 (floatOfInt .f64 x) (floatOfInt .f64 y)) (.complex .f64 re im)).run Try.prog w = .ok (.complex .f64 a b) w) ∧ Is a (x - p) ∧ Is b (y - q) := by
 obtain ⟨a, b, h, h1, h2⟩ := csub (Is.ofInt (n := x) (by omega)) (Is.ofInt (n := y) (by omega)) hr hi (by omega) (by omega)
 exact ⟨a, b, fun w => run_complex_sum w .sub (.inr rfl) _ _ _ _ _ _ _ _ h, h1, h2⟩
theorem divide_any {x y u v : Int} (ha : rb ⟨x, y⟩ = true) (hb : rb ⟨u, v⟩ = true) (h0 : (⟨u, v⟩ : Pt) ≠ Pt.zero) (w : World) :
 Calls Try.prog 91 #[.agg #[.int .i64 x, .int .i64 y], .agg #[.int .i64 u, .int .i64 v]] w
  (Gives (.tuple #[.agg #[.int .i64 (Pt.quo ⟨x, y⟩ ⟨u, v⟩).x, .int .i64 (Pt.quo ⟨x, y⟩ ⟨u, v⟩).y], .agg #[.int .i64 (Pt.rest ⟨x, y⟩ ⟨u, v⟩).x, .int .i64 (Pt.rest ⟨x, y⟩ ⟨u, v⟩).y]]) w) := by
 obtain ⟨hx, hy⟩ := rb_xy ha
 obtain ⟨hu, hv⟩ := rb_xy hb
 have hv' : -16777216 ≤ -v ∧ -v ≤ 16777216 := by omega
 obtain ⟨hp, hq⟩ := rb_yes (Pt.quo_right ha h0)
 obtain ⟨hr1, hr2⟩ := rb_yes (Pt.rest_right (a := ⟨x, y⟩) hb h0)
 obtain ⟨re, im, hm1, i1, i2⟩ := run_cmul hx hy hu hv'
 obtain ⟨re2, im2, hm2, j1, j2⟩ := run_cmul hp hq hu hv
 obtain ⟨s1, s1'⟩ := sum_le (mul_big hx hu) (mul_big hy hv')
 obtain ⟨s2, s2'⟩ := sum_le (mul_big hx hv') (mul_big hy hu)
 obtain ⟨s3, s3'⟩ := sum_le (mul_big hp hu) (mul_big hq hv)
 obtain ⟨s4, s4'⟩ := sum_le (mul_big hp hv) (mul_big hq hu)
 obtain ⟨re3, im3, hm3, k1, k2⟩ := run_csub hx hy j1 j2 s3' s4
 obtain ⟨s5, s5'⟩ := sum_le (mul_big hu hu) (mul_big hv hv)
 have hn : 0 < Pt.norm ⟨u, v⟩ := Pt.norm_pos h0
 refine divide_core x y u v (-v) (x * u - y * -v) (x * -v + y * u) (u * u + v * v) _ _ _ _ _ _ _ _ _ _ _ re im re2 im2 re3 im3 w (Lib.hid (complex_any x y)) (Lib.hid (mirror_any hv)) (Lib.hid (complex_any u (-v))) hm1
  (Lib.hid (spot_any i1 i2 (by omega) (by omega))) (Lib.hid (norm_any hu hv)) (Lib.hid fun w => ?_) (Lib.hid fun w => ?_) (Lib.hid (complex_any _ _)) (Lib.hid (complex_any u v)) hm2 hm3
  (Lib.hid (spot_any k1 k2 ?_ ?_))
 · exact (nearest_any (n := x * u - y * -v) (d := u * u + v * v) (by omega) (by omega) hn (by omega) w).mono fun e w' h => ⟨h.1, by rw [← h.2]; exact Below.refl _ _⟩
 · exact (nearest_any (n := x * -v + y * u) (d := u * u + v * v) (by omega) (by omega) hn (by omega) w).mono fun e w' h => ⟨h.1, by rw [← h.2]; exact Below.refl _ _⟩
 · omega
 · omega
def RelT (x y : Int) (N : Nat) (C I : Value) : Prop := ∃ (k re im : Nat), k ≤ N ∧ I = .int .i64 (k : Int) ∧ C = .complex .f64 re im ∧ Is re (Pt.turns k ⟨x, y⟩).x ∧ Is im (Pt.turns k ⟨x, y⟩).y
set_option maxHeartbeats 1000000 in
theorem turn_any {x y : Int} (h : rb ⟨x, y⟩ = true) (N : Nat) (hN : N ≤ 3) (w : World) :
 Calls Try.prog 100 #[.agg #[.int .i64 x, .int .i64 y], .int .i64 (N : Int)] w (Gives (.agg #[.int .i64 (Pt.turns N ⟨x, y⟩).x, .int .i64 (Pt.turns N ⟨x, y⟩).y]) w) := by
 have hr : ∀ k, (-16777216 ≤ (Pt.turns k ⟨x, y⟩).x ∧ (Pt.turns k ⟨x, y⟩).x ≤ 16777216) ∧ (-16777216 ≤ (Pt.turns k ⟨x, y⟩).y ∧ (Pt.turns k ⟨x, y⟩).y ≤ 16777216) := fun k => rb_yes (Pt.turns_right k h)
 have HT := Lib.hid hr; clear hr
 obtain ⟨hx, hy⟩ := rb_xy h
 have i1 : Is (floatOfInt .f64 x) x := Is.ofInt (by omega)
 have i2 : Is (floatOfInt .f64 y) y := Is.ofInt (by omega)
 have HC := Lib.hid (complex_any x y)
 generalize floatOfInt .f64 x = fx at *
 generalize floatOfInt .f64 y = fy at *
 have I1 := Lib.hid i1; have I2 := Lib.hid i2; clear i1 i2 hx hy h
 go_enter Try.func100, Try.ntmps100
 go_wp2_with (fail)
 refine (HC.out _).mono ?_
 rintro e w1 ⟨rfl, hb⟩
 obtain ⟨h2, d0, d1⟩ := boxes2 31 (.int .i64 x) (.int .i64 y) (.int .i64 0) (.int .i64 0) w
 have HB := Lib.hid (Below.next h2 hb)
 have HD := Lib.hid (d1.next hb)
 clear hb h2 d0 d1
 go_wp2_with (fail)
 go_loop [5, 9] (fun C I => RelT x y N C I) (fun _ I => N - (intOf I).toNat)
 case atStart => exact ⟨0, fx, fy, by omega, rfl, rfl, I1.out, I2.out⟩
 case round =>
  obtain ⟨k, re, im, hk, rfl, rfl, j1, j2⟩ := hrel
  by_cases hlt : k < N
  · obtain ⟨b1, b2⟩ := HT.out k
    obtain ⟨re', im', hm, m1, m2⟩ := cmul j1 j2 Is.zero Is.one (by omega) (by omega) (by omega) (by omega)
    have hrun : ∀ w : World, (binOp .mul 122 (.complex .f64 re im) (.complex .f64 0 4607182418800017408)).run Try.prog w = .ok (.complex .f64 re' im') w := fun w => run_complex_mul w _ _ _ _ _ _ _ hm
    have M1 : Hid (Is re' (Pt.turns (k + 1) ⟨x, y⟩).x) := by
     show Is re' (-(Pt.turns k ⟨x, y⟩).y)
     rwa [show (Pt.turns k ⟨x, y⟩).x * 0 - (Pt.turns k ⟨x, y⟩).y * 1 = -(Pt.turns k ⟨x, y⟩).y by omega] at m1
    have M2 : Hid (Is im' (Pt.turns (k + 1) ⟨x, y⟩).y) := by
     show Is im' ((Pt.turns k ⟨x, y⟩).x)
     rwa [show (Pt.turns k ⟨x, y⟩).x * 1 + (Pt.turns k ⟨x, y⟩).y * 0 = (Pt.turns k ⟨x, y⟩).x by omega] at m2
    clear hm m1 m2 j1 j2 b1 b2
    go_wp2_with (fail)
    go_round
    case rel => exact ⟨k + 1, re', im', by omega, by go_num, rfl, M1.out, M2.out⟩
    case measure => simp [intOf]; omega
  · obtain rfl : k = N := by omega
    obtain ⟨b1, b2⟩ := HT.out k
    have HS := Lib.hid (spot_any j1 j2 (by omega) (by omega))
    generalize (Pt.turns k ⟨x, y⟩).x = p at *
    generalize (Pt.turns k ⟨x, y⟩).y = q at *
    clear j1 j2 b1 b2
    go_wp2_with (fail)
    refine (HS.out _).mono ?_
    rintro e w2 ⟨rfl, hb⟩
    have HB2 := Lib.hid (Below.next HB.out hb)
    have hz := (HD.out.next hb).lt
    obtain ⟨e0, e1, g0, g1⟩ := HD.out.next hb
    clear hb
    go_wp2_with (fail)
    refine bodyPost_ret (v := .agg #[.int .i64 p, .int .i64 q]) (by simp [results, Try.results100, go_sem, e0, e1]) rfl ⟨rfl, ?_⟩
    exact below_put2 HB2.out (c := w.heap.size + 1) (by omega) _ _
def left (a : Pt) : Nat := if (0 < a.x ∧ 0 ≤ a.y) ∨ (a.x = 0 ∧ a.y = 0) then 0 else if a.y < 0 ∧ 0 ≤ a.x then 1 else if a.x < 0 ∧ a.y ≤ 0 then 2 else 3
theorem left_turn {a : Pt} (h : ¬ ((0 < a.x ∧ 0 ≤ a.y) ∨ (a.x = 0 ∧ a.y = 0))) : left a.turn < left a := by
 have tx : a.turn.x = -a.y := rfl
 have ty : a.turn.y = a.x := rfl
 unfold left
 rw [if_neg h, tx, ty]
 repeat' split
 all_goals omega
structure RelF (x y : Int) (w : World) (b c : Nat) (wr : World) (p q : Int) : Prop where
 right : rb ⟨p, q⟩ = true
 same : Pt.fs ⟨p, q⟩ = Pt.fs ⟨x, y⟩
 own : Duo wr b (.int .i64 p) (.int .i64 q)
 res : Duo wr c (.int .i64 0) (.int .i64 0)
 below : Below w.heap.size w wr
def cellInt (w : World) (b o : Nat) : Int := match w.cell? ⟨b, o, none⟩ with | some (.int _ n) => n | _ => 0
theorem cellInt_of {w : World} {b o : Nat} {k : IntKind} {n : Int} (h : w.cell? ⟨b, o, none⟩ = some (.int k n)) : cellInt w b o = n := by unfold cellInt; rw [h]
set_option maxHeartbeats 1000000 in
theorem first_any {x y : Int} (h : rb ⟨x, y⟩ = true) (w : World) :
 Calls Try.prog 92 #[.agg #[.int .i64 x, .int .i64 y]] w (Gives (.agg #[.int .i64 (Pt.fs ⟨x, y⟩).x, .int .i64 (Pt.fs ⟨x, y⟩).y]) w) := by
 have H := Lib.hid h; clear h
 go_enter Try.func92, Try.ntmps92
 go_wp2_with (fail)
 obtain ⟨h2, d0, d1⟩ := boxes2 31 (.int .i64 x) (.int .i64 y) (.int .i64 0) (.int .i64 0) w
 have HW : Hid (∃ p q, RelF x y w w.heap.size (w.heap.size + 1) ((w.alloc (.cells #[.int .i64 x, .int .i64 y] 31)).alloc (.cells #[.int .i64 0, .int .i64 0] 31)) p q) := Lib.hid ⟨x, y, H.out, rfl, d0, d1, h2⟩
 clear h2 d0 d1
 go_loopw [] (fun wr => ∃ p q, RelF x y w w.heap.size (w.heap.size + 1) wr p q) (fun wr => left ⟨cellInt wr w.heap.size 0, cellInt wr w.heap.size 1⟩)
 case atStart => exact HW.out
 case round =>
  obtain ⟨p, q, hF⟩ := hrel
  have HF := Lib.hid hF
  have HM1 : Hid (cellInt wr w.heap.size 0 = p) := Lib.hid (cellInt_of hF.own.c0)
  have HM2 : Hid (cellInt wr w.heap.size 1 = q) := Lib.hid (cellInt_of hF.own.c1)
  obtain ⟨c0, c1, f0, f1⟩ := hF.own
  obtain ⟨e0, e1, g0, g1⟩ := hF.res
  clear hF
  by_cases hd : (0 < p ∧ 0 ≤ q) ∨ (p = 0 ∧ q = 0)
  · have HE : Hid (Pt.fs ⟨x, y⟩ = ⟨p, q⟩) := by
     show _ = _
     rw [← HF.out.same]
     exact Pt.fs_done (hd.imp id (fun h => Pt.ext h.1 h.2))
    have hz := HF.out.res.lt
    have p0 : ¬ p < 0 := by omega
    have q0 : ¬ q < 0 := by omega
    by_cases hp : p = 0
    · have q1 : ¬ 0 < q := by omega
      have hpb : (p == 0) = true := beq_iff_eq.2 hp
      clear hd hp
      go_wp2_with (fail)
      refine bodyPost_ret (v := .agg #[.int .i64 p, .int .i64 q]) (by simp [results, Try.results92, go_sem, e0, e1]) rfl ⟨by rw [HE.out], ?_⟩
      exact below_put2 HF.out.below (c := w.heap.size + 1) (by omega) _ _
    · have hpb : (p == 0) = false := beq_eq_false_iff_ne.2 hp
      clear hd hp
      go_wp2_with (fail)
      refine bodyPost_ret (v := .agg #[.int .i64 p, .int .i64 q]) (by simp [results, Try.results92, go_sem, e0, e1]) rfl ⟨by rw [HE.out], ?_⟩
      exact below_put2 HF.out.below (c := w.heap.size + 1) (by omega) _ _
  · have HT : Hid (∀ w, Calls Try.prog 100 #[.agg #[.int .i64 p, .int .i64 q], .int .i64 1] w (Gives (.agg #[.int .i64 (-q), .int .i64 p]) w)) := Lib.hid (turn_any HF.out.right 1 (by omega))
    have HL : Hid (left ⟨-q, p⟩ < left ⟨p, q⟩) := Lib.hid (left_turn (a := ⟨p, q⟩) hd)
    have HS : Hid (Pt.fs ⟨-q, p⟩ = Pt.fs ⟨x, y⟩) := Lib.hid ((Pt.fs_turn (a := ⟨p, q⟩) (fun h => hd (.inl h)) (fun h => hd (.inr (by injection h with h1 h2; exact ⟨h1, h2⟩)))).trans HF.out.same)
    have HR : Hid (rb ⟨-q, p⟩ = true) := Lib.hid (Pt.turn_right HF.out.right)
    have hcase : p < 0 ∨ (¬ p < 0 ∧ q < 0) ∨ (¬ p < 0 ∧ ¬ q < 0 ∧ (p == 0) = true ∧ 0 < q) := by
     by_cases a1 : p < 0
     · exact .inl a1
     · by_cases a2 : q < 0
       · exact .inr (.inl ⟨a1, a2⟩)
       · exact .inr (.inr ⟨a1, a2, beq_iff_eq.2 (by omega), by omega⟩)
    clear hd
    generalize -q = q' at *
    rcases hcase with a1 | ⟨a1, a2⟩ | ⟨a1, a2, a3, a4⟩
    all_goals
     go_wp2_with (fail)
     refine (HT.out _).mono ?_
     rintro e w2 ⟨rfl, hb⟩
     have HO := Lib.hid ((HF.out.own.next hb).set (.int .i64 q') (.int .i64 p))
     have HP := Lib.hid ((HF.out.res.next hb).put2 (c := w.heap.size) (by omega) (.int .i64 q') (.int .i64 p))
     have HB := Lib.hid (below_put2 (HF.out.below.trans (hb.mono HF.out.below.size)) (c := w.heap.size) (Nat.le_refl _) (.int .i64 q') (.int .i64 p))
     obtain ⟨d0, d1, h0, h1⟩ := HF.out.own.next hb
     have hz := (HF.out.own.next hb).lt
     clear hb c0 c1 f0 f1 e0 e1 g0 g1
     go_wp2_with (fail)
     go_roundw
     case rel => exact ⟨q', p, HR.out, HS.out, HO.out, HP.out, HB.out⟩
     case measure =>
      rw [HM1.out, HM2.out, cellInt_of HO.out.c0, cellInt_of HO.out.c1]
      exact HL.out
theorem not_zero {u v : Int} (h : (⟨u, v⟩ : Pt) ≠ Pt.zero) : (u == 0) = false ∨ ((u == 0) = true ∧ (v == 0) = false) := by
 by_cases hu : u = 0
 · exact .inr ⟨beq_iff_eq.2 hu, beq_eq_false_iff_ne.2 fun hv => h (Pt.ext hu hv)⟩
 · exact .inl (beq_eq_false_iff_ne.2 hu)
theorem common_bad (x y u v : Int) (h : (rb ⟨x, y⟩ && rb ⟨u, v⟩) = false) (w : World) : Calls Try.prog 81 #[.agg #[.int .i64 x, .int .i64 y], .agg #[.int .i64 u, .int .i64 v]] w (Gives (.tuple #[.agg #[.int .i64 0, .int .i64 0], .int .i64 14]) w) := by
 have HR := Lib.hid (both_any x y u v); rw [h] at HR; clear h
 go_enter Try.func81, Try.ntmps81
 go_wp2_with (fail)
 refine wp_scope_once 0 (fun _ _ => False) (fun _ _ => 0) rfl (fun NX => ?_) (fun _ _ h => h.elim)
 clear NX
 go_wp2_with (fail)
 refine (HR.out _).mono ?_
 rintro e w1 ⟨rfl, hb⟩
 obtain ⟨h2, d2, d3, d4⟩ := boxes3 31 (.int .i64 x) (.int .i64 y) (.int .i64 u) (.int .i64 v) (.int .i64 0) (.int .i64 0) w
 have HB := Lib.hid (Below.next h2 hb)
 have hz := (d4.next hb).lt
 obtain ⟨e0, e1, g0, g1⟩ := d4.next hb
 clear hb h2 d2 d3 d4
 go_wp2_with (fail)
 simp only [Exit.jump]
 refine bodyPost_ret (v := .tuple #[.agg #[.int .i64 0, .int .i64 0], .int .i64 14]) (by simp [results, Try.results81, go_sem, e0, e1]) rfl ⟨rfl, ?_⟩
 exact below_put2 HB.out (c := w.heap.size + 1 + 1) (by omega) _ _
def JG (x y u v : Int) (w : World) (a' : Act) (w' : World) : Prop := ∃ (p q r s : Int) (u6 u7 u8 u9 u10 u11 u12 u13 u14 u15 u16 u17 u18 u19 u20 u21 u22 u23 u24 u25 : Value),
 rb ⟨p, q⟩ = true ∧ rb ⟨r, s⟩ = true ∧ Pt.cg ⟨p, q⟩ ⟨r, s⟩ = Pt.cg ⟨x, y⟩ ⟨u, v⟩ ∧ Duo w' w.heap.size (.int .i64 p) (.int .i64 q) ∧ Duo w' (w.heap.size + 1) (.int .i64 r) (.int .i64 s) ∧ Duo w' (w.heap.size + 1 + 1) (.int .i64 0) (.int .i64 0) ∧ Below w.heap.size w w' ∧
 a' = { tmps := #[.agg #[.int .i64 x, .int .i64 y], .agg #[.int .i64 u, .int .i64 v], .pointer (some ⟨w.heap.size, 0, none⟩), .pointer (some ⟨w.heap.size + 1, 0, none⟩), .pointer (some ⟨w.heap.size + 1 + 1, 0, none⟩), .int .i64 0, u6, u7, u8, u9, u10, u11, u12, u13, u14, u15, u16, u17, u18, u19, u20, u21, u22, u23, u24, u25], defers := [] }
def muG (w : World) (_ : Act) (w' : World) : Nat := (Pt.norm ⟨cellInt w' (w.heap.size + 1) 0, cellInt w' (w.heap.size + 1) 1⟩).toNat
set_option maxRecDepth 100000 in
set_option maxHeartbeats 2000000 in
theorem common_yes {x y u v : Int} (ha : rb ⟨x, y⟩ = true) (hb : rb ⟨u, v⟩ = true) (w : World) : Calls Try.prog 81 #[.agg #[.int .i64 x, .int .i64 y], .agg #[.int .i64 u, .int .i64 v]] w
 (Gives (.tuple #[.agg #[.int .i64 (Pt.cg ⟨x, y⟩ ⟨u, v⟩).x, .int .i64 (Pt.cg ⟨x, y⟩ ⟨u, v⟩).y], .int .i64 0]) w) := by
 have HR := Lib.hid (both_any x y u v); rw [ha, hb] at HR
 have HA := Lib.hid ha; have HH := Lib.hid hb; clear ha hb
 go_enter Try.func81, Try.ntmps81
 go_wp2_with (fail)
 refine wp_scope_once 0 (JG x y u v w) (muG w) rfl (fun NX => ?_) ?_
 · go_wp2_with (fail)
   refine (HR.out _).mono ?_
   rintro e w1 ⟨rfl, hb⟩
   obtain ⟨h2, d2, d3, d4⟩ := boxes3 31 (.int .i64 x) (.int .i64 y) (.int .i64 u) (.int .i64 v) (.int .i64 0) (.int .i64 0) w
   have HB := Lib.hid (Below.next h2 hb)
   have D2 := Lib.hid (d2.next hb); have D3 := Lib.hid (d3.next hb); have D4 := Lib.hid (d4.next hb)
   clear hb h2 d2 d3 d4
   go_wp2_with (fail)
   go_step3
   rename_i hK
   exact hK _ _ (NX.out _ _ ⟨x, y, u, v, _, _, _, _, _, _, _, _, _, _, _, _, _, _, _, _, _, _, _, _, HA.out, HH.out, rfl, D2.out, D3.out, D4.out, HB.out, rfl⟩)
 · rintro a' w' ⟨p, q, r, s, u6, u7, u8, u9, u10, u11, u12, u13, u14, u15, u16, u17, u18, u19, u20, u21, u22, u23, u24, u25, ha, hb, hg, d2, d3, d4, hbl, rfl⟩
   have HP := Lib.hid ha; have HQ := Lib.hid hb; have HG := Lib.hid hg; have D2 := Lib.hid d2; have D3 := Lib.hid d3; have D4 := Lib.hid d4; have HB := Lib.hid hbl
   obtain ⟨a0, a1, f2, f3⟩ := d2
   obtain ⟨b0, b1, f4, f5⟩ := d3
   have HM : Hid (muG w { tmps := #[.agg #[.int .i64 x, .int .i64 y], .agg #[.int .i64 u, .int .i64 v], .pointer (some ⟨w.heap.size, 0, none⟩), .pointer (some ⟨w.heap.size + 1, 0, none⟩), .pointer (some ⟨w.heap.size + 1 + 1, 0, none⟩), .int .i64 0, u6, u7, u8, u9, u10, u11, u12, u13, u14, u15, u16, u17, u18, u19, u20, u21, u22, u23, u24, u25], defers := [] } w' = (Pt.norm ⟨r, s⟩).toNat) := by
    show muG _ _ _ = _
    unfold muG; rw [cellInt_of b0, cellInt_of b1]
   clear ha hb hg d4 hbl
   by_cases h0 : (⟨r, s⟩ : Pt) = Pt.zero
   · have HC : Hid (Pt.cg ⟨x, y⟩ ⟨u, v⟩ = Pt.fs ⟨p, q⟩) := by
      show _ = _
      rw [← HG.out, h0, Pt.cg_zero]
     have hr : (r == 0) = true := by injection h0 with h1 h2; exact beq_iff_eq.2 h1
     have hs : (s == 0) = true := by injection h0 with h1 h2; exact beq_iff_eq.2 h2
     clear h0
     rw [HC.out]
     have HF := Lib.hid (first_any HP.out)
     generalize (Pt.fs ⟨p, q⟩).x = fx at *
     generalize (Pt.fs ⟨p, q⟩).y = fy at *
     go_wp2_with (fail)
     refine (HF.out _).mono ?_
     rintro e w2 ⟨rfl, hb⟩
     have HB2 := Lib.hid (HB.out.trans (hb.mono HB.out.size))
     have hz := (D4.out.next hb).lt
     obtain ⟨e0, e1, g0, g1⟩ := D4.out.next hb
     clear hb a0 a1 b0 b1
     go_wp2_with (fail)
     simp only [Exit.jump]
     refine bodyPost_ret (v := .tuple #[.agg #[.int .i64 fx, .int .i64 fy], .int .i64 0]) (by simp [results, Try.results81, go_sem, e0, e1]) rfl ⟨rfl, ?_⟩
     exact below_put2 HB2.out (c := w.heap.size + 1 + 1) (by omega) _ _
   · have HC : Hid (Pt.cg ⟨r, s⟩ (Pt.rest ⟨p, q⟩ ⟨r, s⟩) = Pt.cg ⟨x, y⟩ ⟨u, v⟩) := by
      show _ = _
      rw [← HG.out, Pt.cg_rest _ h0]
     have HL := Lib.hid (Pt.rest_lt ⟨p, q⟩ h0)
     have HN := Lib.hid (Pt.rest_right (a := ⟨p, q⟩) HQ.out h0)
     have HD := Lib.hid (divide_any HP.out HQ.out h0)
     have hne := not_zero h0
     clear h0
     obtain ⟨t, ht⟩ : ∃ t, Pt.rest ⟨p, q⟩ ⟨r, s⟩ = t := ⟨_, rfl⟩
     rw [ht] at HC HL HN HD
     obtain ⟨tx, ty⟩ := t
     have HD2 : Hid (∀ w, Calls Try.prog 91 #[.agg #[.int .i64 p, .int .i64 q], .agg #[.int .i64 r, .int .i64 s]] w
      (Gives (.tuple #[.agg #[.int .i64 (Pt.quo ⟨p, q⟩ ⟨r, s⟩).x, .int .i64 (Pt.quo ⟨p, q⟩ ⟨r, s⟩).y], .agg #[.int .i64 tx, .int .i64 ty]]) w)) := HD
     clear HD ht
     generalize (Pt.quo ⟨p, q⟩ ⟨r, s⟩).x = qx at *
     generalize (Pt.quo ⟨p, q⟩ ⟨r, s⟩).y = qy at *
     rcases hne with hr | ⟨hr, hs⟩
     all_goals
      go_wp2_with (fail)
      refine (HD2.out _).mono ?_
      rintro e w2 ⟨rfl, hb⟩
      obtain ⟨k2, o6, o7⟩ := boxes2 31 (.int .i64 qx) (.int .i64 qy) (.int .i64 tx) (.int .i64 ty) w2
      have HB2 := Lib.hid ((HB.out.trans (hb.mono HB.out.size)).trans (k2.mono (HB.out.trans (hb.mono HB.out.size)).size))
      have F2 := Lib.hid ((D2.out.next hb).next k2)
      have F3 := Lib.hid ((D3.out.next hb).next k2)
      have F4 := Lib.hid ((D4.out.next hb).next k2)
      have O7 := Lib.hid o7
      have hg : w.heap.size + 1 + 1 < w2.heap.size := (D4.out.next hb).lt
      clear hb a0 a1 b0 b1 f2 f3 f4 f5 k2 o6 o7
      go_wp2_with (fail)
      generalize (w2.alloc (.cells #[.int .i64 qx, .int .i64 qy] 31)).alloc (.cells #[.int .i64 tx, .int .i64 ty] 31) = w3 at *
      have n1 : ¬ w.heap.size = w2.heap.size + 1 := by omega
      have n2 : ¬ w.heap.size + 1 = w2.heap.size + 1 := by omega
      have n3 : ¬ w2.heap.size + 1 = w.heap.size := by omega
      have n4 : ¬ w2.heap.size + 1 = w.heap.size + 1 := by omega
      clear hg
      generalize w2.heap.size + 1 = g at *
      obtain ⟨a0, a1, _, _⟩ := O7.out
      obtain ⟨b0, b1, g0, g1⟩ := F2.out
      obtain ⟨c0, c1, i0, i1⟩ := F3.out
      have hz := F4.out.lt
      have HX := Lib.hid (((F2.out.set (.int .i64 r) (.int .i64 s)).put2 (c := w.heap.size + 1) (by omega) (.int .i64 tx) (.int .i64 ty)).drew)
      have HY := Lib.hid (((F3.out.put2 (c := w.heap.size) (by omega) (.int .i64 r) (.int .i64 s)).set (.int .i64 tx) (.int .i64 ty)).drew)
      have HZ := Lib.hid (((F4.out.put2 (c := w.heap.size) (by omega) (.int .i64 r) (.int .i64 s)).put2 (c := w.heap.size + 1) (by omega) (.int .i64 tx) (.int .i64 ty)).drew)
      have HW := Lib.hid (below_put2 (below_put2 HB2.out (c := w.heap.size) (by omega) (.int .i64 r) (.int .i64 s)) (c := w.heap.size + 1) (by omega) (.int .i64 tx) (.int .i64 ty)).drew
      go_region
      go_wp2_with (fail)
      go_step3
      refine ⟨rfl, ⟨r, s, tx, ty, _, _, _, _, _, _, _, _, _, _, _, _, _, _, _, _, _, _, _, _, HQ.out, HN.out, HC.out, HX.out, HY.out, HZ.out, HW.out, rfl⟩, ?_⟩
      refine Nat.lt_of_lt_of_eq ?_ HM.out.symm
      unfold muG
      rw [cellInt_of HY.out.c0, cellInt_of HY.out.c1]
      exact HL.out
end Go.Proofs.Ytamhfjlffacakaa.Ga
namespace Go.Proofs.Ytamhfjlffacakaa.Jo
open Go.ChangeShapes Go.WideShapes Go.ChangeAt Go.RowKit Ov Ga Va
theorem five {w : World} {b : Nat} {x0 x1 x2 x3 x4 : Value} (h : Blk w b [x0, x1, x2, x3, x4]) : w.cell? ⟨b, 0, none⟩ = some x0 ∧ w.cell? ⟨b, 1, none⟩ = some x1 ∧ w.cell? ⟨b, 2, none⟩ = some x2 ∧ w.cell? ⟨b, 3, none⟩ = some x3 ∧ w.cell? ⟨b, 4, none⟩ = some x4 := ⟨h.c 0 _ rfl, h.c 1 _ rfl, h.c 2 _ rfl, h.c 3 _ rfl, h.c 4 _ rfl⟩
theorem thaw {w : World} {b : Nat} {x0 x1 x2 x3 x4 : Value} (h : Blk w b [x0, x1, x2, x3, x4]) : w.frozen? ⟨b, 0, none⟩ = false ∧ w.frozen? ⟨b, 1, none⟩ = false ∧ w.frozen? ⟨b, 2, none⟩ = false ∧ w.frozen? ⟨b, 3, none⟩ = false ∧ w.frozen? ⟨b, 4, none⟩ = false := ⟨h.f 0 _ rfl, h.f 1 _ rfl, h.f 2 _ rfl, h.f 3 _ rfl, h.f 4 _ rfl⟩
theorem fin5 {P : World → Prop} {lo : Nat} {W w : World} {b : Nat} {x0 x1 x2 x3 x4 : Value} (h : Blk w b [x0, x1, x2, x3, x4]) (hb : Below lo W w) (hlo : lo ≤ b) (a0 a1 a2 a3 a4 : Value)
 (k : ∀ w', Blk w' b [a0, a1, a2, a3, a4] → Below lo W w' → (∀ c ys, c ≠ b → Blk w c ys → Blk w' c ys) → P w') : P (((((w.setCell ⟨b, 0, none⟩ a0).setCell ⟨b, 1, none⟩ a1).setCell ⟨b, 2, none⟩ a2).setCell ⟨b, 3, none⟩ a3).setCell ⟨b, 4, none⟩ a4) :=
 k _ (((((h.set 0 a0).set 1 a1).set 2 a2).set 3 a3).set 4 a4) (((((hb.setCell hlo _).setCell hlo _).setCell hlo _).setCell hlo _).setCell hlo _) fun _ _ hc g => ((((g.put (Ne.symm hc) 0 a0).put (Ne.symm hc) 1 a1).put (Ne.symm hc) 2 a2).put (Ne.symm hc) 3 a3).put (Ne.symm hc) 4 a4
theorem fin2 {P : World → Prop} {lo : Nat} {W w : World} {b : Nat} {x0 x1 : Value} (h : Duo w b x0 x1) (hb : Below lo W w) (hlo : lo ≤ b) (a0 a1 : Value)
 (k : ∀ w', Duo w' b a0 a1 → Below lo W w' → P w') : P ((w.setCell ⟨b, 0, none⟩ a0).setCell ⟨b, 1, none⟩ a1) := k _ (h.set a0 a1) ((hb.setCell hlo _).setCell hlo _)
theorem two_boxes (w : World) (t : TypeId) (xs ys zs : List Value) : Blk (((w.alloc (.cells xs.toArray t)).alloc (.cells ys.toArray t)).alloc (.cells zs.toArray t)) w.heap.size xs ∧
 Blk (((w.alloc (.cells xs.toArray t)).alloc (.cells ys.toArray t)).alloc (.cells zs.toArray t)) (w.heap.size + 1) ys ∧ Blk (((w.alloc (.cells xs.toArray t)).alloc (.cells ys.toArray t)).alloc (.cells zs.toArray t)) (w.heap.size + 1 + 1) zs ∧
 Below w.heap.size w (((w.alloc (.cells xs.toArray t)).alloc (.cells ys.toArray t)).alloc (.cells zs.toArray t)) :=
 ⟨((Blk.made w t xs rfl).old _).old _, (Blk.made _ t ys (World.size_alloc _ _)).old _, Blk.made _ t zs (by simp [World.size_alloc]), box3 _ _ _ _⟩
set_option maxHeartbeats 1000000 in
theorem choose_b (c : ByteArray) (k n x y k' n' x' y' : Int) (s s' : ByteArray) (hs : s'.size ≤ 281474976710656) (w : World) (h : (decide (ord ⟨k, n, s.data.toList, x, y⟩ ⟨k', n', s'.data.toList, x', y'⟩ < 0) == (c.toList == [109, 97, 120])) = true) :
 Calls Try.prog 64 #[.string c, .agg #[.int .i64 k, .int .i64 n, .string s, .int .i64 x, .int .i64 y], .agg #[.int .i64 k', .int .i64 n', .string s', .int .i64 x', .int .i64 y']] w (Gives (.agg #[.int .i64 k', .int .i64 n', .string s', .int .i64 x', .int .i64 y']) w) := by
 have HO := Lib.hid (order_val k n x y k' n' x' y' s s')
 have HC := Lib.hid (fun w1 => clone_any s' w1 hs)
 generalize ord ⟨k, n, s.data.toList, x, y⟩ ⟨k', n', s'.data.toList, x', y'⟩ = o at *
 obtain ⟨D1, D2, D3, hb0⟩ := two_boxes w 33 [.int .i64 k, .int .i64 n, .string s, .int .i64 x, .int .i64 y] [.int .i64 k', .int .i64 n', .string s', .int .i64 x', .int .i64 y'] [.int .i64 0, .int .i64 0, .string ⟨#[]⟩, .int .i64 0, .int .i64 0]
 have H1 := Lib.hid D1; have H2 := Lib.hid D2; have H3 := Lib.hid D3; have HB := Lib.hid hb0; clear D1 D2 D3 hb0
 go_enter Try.func64, Try.ntmps64
 go_wp2_with (fail)
 refine (HO.out _).mono ?_
 rintro e w1 ⟨rfl, hb⟩
 replace H1 := Lib.hid (H1.out.next hb); replace H2 := Lib.hid (H2.out.next hb); replace H3 := Lib.hid (H3.out.next hb); replace HB := Lib.hid (Below.next HB.out hb); clear hb
 obtain ⟨c0, c1, c2, c3, c4⟩ := five H2.out
 obtain ⟨f0, f1, f2, f3, f4⟩ := thaw H1.out
 obtain ⟨e0, e1, e2, e3, e4⟩ := five H1.out
 go_wp2_with (fail)
 clear c0 c1 c2 c3 c4 f0 f1 f2 f3 f4 e0 e1 e2 e3 e4
 refine fin5 (P := fun W => Calls Try.prog _ _ W _) H1.out HB.out (Nat.le_refl _) _ _ _ _ _ fun w2 hx hy ho => ?_
 replace H3 := Lib.hid (ho _ _ (by omega) H3.out); replace H1 := Lib.hid hx; replace HB := Lib.hid hy; clear hx hy ho H2
 refine (HC.out _).mono ?_
 rintro e w3 ⟨rfl, hb⟩
 replace H1 := Lib.hid (H1.out.next hb); replace H3 := Lib.hid (H3.out.next hb); replace HB := Lib.hid (Below.next HB.out hb); clear hb
 obtain ⟨c0, c1, c2, c3, c4⟩ := five H1.out
 obtain ⟨f0, f1, f2, f3, f4⟩ := thaw H3.out
 obtain ⟨e0, e1, e2, e3, e4⟩ := five H3.out
 have g2 := H1.out.f 2 _ rfl
 go_wp2_with (fail)
 have h3 := H3.out.put (show w.heap.size ≠ w.heap.size + 1 + 1 by omega) 2 (.string s')
 have hb3 := HB.out.setCell (p := ⟨w.heap.size, 2, none⟩) (Nat.le_refl _) (.string s')
 clear c0 c1 c2 c3 c4 f0 f1 f2 f3 f4 e0 e1 e2 e3 e4 g2
 refine fin5 (P := bodyPost _ _ _ _ _) h3 hb3 (by omega) _ _ _ _ _ fun w4 hx hy _ => ?_
 obtain ⟨c0, c1, c2, c3, c4⟩ := five hx
 exact bodyPost_ret (v := .agg #[.int .i64 k', .int .i64 n', .string s', .int .i64 x', .int .i64 y']) (by simp [results, Try.results64, go_sem, c0, c1, c2, c3, c4]) rfl ⟨rfl, hy⟩
set_option maxHeartbeats 1000000 in
theorem choose_a (c : ByteArray) (k n x y k' n' x' y' : Int) (s s' : ByteArray) (hs : s.size ≤ 281474976710656) (w : World) (h : (decide (ord ⟨k, n, s.data.toList, x, y⟩ ⟨k', n', s'.data.toList, x', y'⟩ < 0) == (c.toList == [109, 97, 120])) = false) :
 Calls Try.prog 64 #[.string c, .agg #[.int .i64 k, .int .i64 n, .string s, .int .i64 x, .int .i64 y], .agg #[.int .i64 k', .int .i64 n', .string s', .int .i64 x', .int .i64 y']] w (Gives (.agg #[.int .i64 k, .int .i64 n, .string s, .int .i64 x, .int .i64 y]) w) := by
 have HO := Lib.hid (order_val k n x y k' n' x' y' s s')
 have HC := Lib.hid (fun w1 => clone_any s w1 hs)
 generalize ord ⟨k, n, s.data.toList, x, y⟩ ⟨k', n', s'.data.toList, x', y'⟩ = o at *
 obtain ⟨D1, D2, D3, hb0⟩ := two_boxes w 33 [.int .i64 k, .int .i64 n, .string s, .int .i64 x, .int .i64 y] [.int .i64 k', .int .i64 n', .string s', .int .i64 x', .int .i64 y'] [.int .i64 0, .int .i64 0, .string ⟨#[]⟩, .int .i64 0, .int .i64 0]
 have H1 := Lib.hid D1; have H2 := Lib.hid D2; have H3 := Lib.hid D3; have HB := Lib.hid hb0; clear D1 D2 D3 hb0
 go_enter Try.func64, Try.ntmps64
 go_wp2_with (fail)
 refine (HO.out _).mono ?_
 rintro e w1 ⟨rfl, hb⟩
 replace H1 := Lib.hid (H1.out.next hb); replace H2 := Lib.hid (H2.out.next hb); replace H3 := Lib.hid (H3.out.next hb); replace HB := Lib.hid (Below.next HB.out hb); clear hb
 obtain ⟨c0, c1, c2, c3, c4⟩ := five H1.out
 go_wp2_with (fail)
 clear c0 c1 c2 c3 c4
 refine (HC.out _).mono ?_
 rintro e w3 ⟨rfl, hb⟩
 replace H1 := Lib.hid (H1.out.next hb); replace H2 := Lib.hid (H2.out.next hb); replace H3 := Lib.hid (H3.out.next hb); replace HB := Lib.hid (Below.next HB.out hb); clear hb
 obtain ⟨c0, c1, c2, c3, c4⟩ := five H1.out
 obtain ⟨f0, f1, f2, f3, f4⟩ := thaw H3.out
 obtain ⟨e0, e1, e2, e3, e4⟩ := five H3.out
 have g2 := H1.out.f 2 _ rfl
 go_wp2_with (fail)
 have h3 := H3.out.put (show w.heap.size ≠ w.heap.size + 1 + 1 by omega) 2 (.string s)
 have hb3 := HB.out.setCell (p := ⟨w.heap.size, 2, none⟩) (Nat.le_refl _) (.string s)
 clear c0 c1 c2 c3 c4 f0 f1 f2 f3 f4 e0 e1 e2 e3 e4 g2
 refine fin5 (P := bodyPost _ _ _ _ _) h3 hb3 (by omega) _ _ _ _ _ fun w4 hx hy _ => ?_
 obtain ⟨c0, c1, c2, c3, c4⟩ := five hx
 exact bodyPost_ret (v := .agg #[.int .i64 k, .int .i64 n, .string s, .int .i64 x, .int .i64 y]) (by simp [results, Try.results64, go_sem, c0, c1, c2, c3, c4]) rfl ⟨rfl, hy⟩
theorem sum_text (c : ByteArray) : (c.toList == [115, 117, 109]) = decide (c.data.toList = wSum) := by
 rw [ByteArray.toList_eq, Bool.eq_iff_iff, beq_iff_eq, decide_eq_true_iff]; rfl
set_option maxRecDepth 100000 in
theorem numbers_any (c : ByteArray) (a b : Int) (ha : -9007199254740992 ≤ a ∧ a ≤ 9007199254740992) (hb : -9007199254740992 ≤ b ∧ b ≤ 9007199254740992) (w : World) :
 Calls Try.prog 65 #[.string c, .int .i64 a, .int .i64 b] w (Gives (.int .i64 (if c.data.toList = wSum then rg (a + b) 9007199254740992 else (Int.gcd a b : Int))) w) := by
 have hq := sum_text c
 by_cases h : c.data.toList = wSum
 · rw [if_pos h]
   rw [decide_eq_true h] at hq
   have HC := Lib.hid (fun w => round_any (a + b) 9007199254740992 (by decide) (by omega) w)
   have h1 : wrap64 (a + b) = a + b := IntWalk.wrap64_in _ (by omega)
   clear h ha hb
   go_enter Try.func65, Try.ntmps65
   go_wp2_with (fail)
   refine (HC.out _).mono ?_
   rintro e w1 ⟨rfl, hb⟩
   have HB := Lib.hid hb; clear hb
   go_wp2_with (fail)
   go_ret
   exact ⟨rfl, HB.out⟩
 · rw [if_neg h]
   rw [decide_eq_false h] at hq
   have HC := Lib.hid (fun w => common_any a b ha hb w)
   generalize (Int.gcd a b : Int) = g at *
   clear h ha hb
   go_enter Try.func65, Try.ntmps65
   go_wp2_with (fail)
   refine (HC.out _).mono ?_
   rintro e w1 ⟨rfl, hb⟩
   have HB := Lib.hid hb; clear hb
   go_wp2_with (fail)
   go_ret
   exact ⟨rfl, HB.out⟩
set_option maxRecDepth 100000 in
set_option maxHeartbeats 1000000 in
theorem spots_sum (c : ByteArray) (x y u v : Int) (hq : (c.toList == [115, 117, 109]) = true) (hx : -16777216 ≤ x ∧ x ≤ 16777216) (hy : -16777216 ≤ y ∧ y ≤ 16777216) (hu : -16777216 ≤ u ∧ u ≤ 16777216) (hv : -16777216 ≤ v ∧ v ≤ 16777216) (w : World) :
 Calls Try.prog 66 #[.string c, .agg #[.int .i64 x, .int .i64 y], .agg #[.int .i64 u, .int .i64 v]] w (Gives (.agg #[.int .i64 (rg (x + u) 16777216), .int .i64 (rg (y + v) 16777216)]) w) := by
 have h1 : wrap64 (x + u) = x + u := IntWalk.wrap64_in _ (by omega)
 have h2 : wrap64 (y + v) = y + v := IntWalk.wrap64_in _ (by omega)
 have HX := Lib.hid (fun w => round_any (x + u) 16777216 (by decide) (by omega) w)
 have HY := Lib.hid (fun w => round_any (y + v) 16777216 (by decide) (by omega) w)
 generalize rg (x + u) 16777216 = p at *
 generalize rg (y + v) 16777216 = q at *
 clear hx hy hu hv
 obtain ⟨kb, o1, o2, o3⟩ := boxes3 31 (.int .i64 x) (.int .i64 y) (.int .i64 u) (.int .i64 v) (.int .i64 0) (.int .i64 0) w
 have HB := Lib.hid kb; have D1 := Lib.hid o1; have D2 := Lib.hid o2; have D3 := Lib.hid o3
 clear kb o1 o2 o3
 go_enter Try.func66, Try.ntmps66
 go_wp2_with (fail)
 generalize ((w.alloc (.cells #[.int .i64 x, .int .i64 y] 31)).alloc (.cells #[.int .i64 u, .int .i64 v] 31)).alloc (.cells #[.int .i64 0, .int .i64 0] 31) = v1 at *
 have d0 := fun r : Over v1 => (D1.out.over r).c0
 have d1 := fun r : Over v1 => (D1.out.over r).c1
 have e0 := fun r : Over v1 => (D2.out.over r).c0
 have e1 := fun r : Over v1 => (D2.out.over r).c1
 refine wp_over_tail 13 (by kernel_rfl) (by kernel_rfl) ?_
 simp only [List.take_succ_cons, List.take_zero, List.drop_succ_cons, List.drop_zero]
 repeat (go_big_quiet_step (first | fail | with_reducible exact over_gives _ (HX.out _) | with_reducible exact over_gives _ (HY.out _)))
 refine wpQuiet_nil ?_
 rintro w2 ⟨⟨w2, hb⟩, rfl⟩
 have E3 := D3.out.next hb
 replace HB := Lib.hid (Below.next HB.out hb)
 have hz := E3.lt
 have K3 := Lib.hid E3
 obtain ⟨c0, c1, f0, f1⟩ := E3
 clear hb d0 d1 e0 e1 D1 D2 D3
 go_wp2_with (fail)
 clear c0 c1 f0 f1
 refine fin2 (P := bodyPost _ _ _ _ _) K3.out HB.out (by omega) _ _ fun w4 hx hy => ?_
 obtain ⟨c0, c1, _, _⟩ := hx
 exact bodyPost_ret (v := .agg #[.int .i64 p, .int .i64 q]) (by simp [results, Try.results66, go_sem, c0, c1]) rfl ⟨rfl, hy⟩
set_option maxHeartbeats 1000000 in
theorem spots_gcd (c : ByteArray) (x y u v : Int) (hq : (c.toList == [115, 117, 109]) = false) (ha : rb ⟨x, y⟩ = true) (hb : rb ⟨u, v⟩ = true) (w : World) :
 Calls Try.prog 66 #[.string c, .agg #[.int .i64 x, .int .i64 y], .agg #[.int .i64 u, .int .i64 v]] w (Gives (.agg #[.int .i64 (Pt.cg ⟨x, y⟩ ⟨u, v⟩).x, .int .i64 (Pt.cg ⟨x, y⟩ ⟨u, v⟩).y]) w) := by
 have HC := Lib.hid (fun w => common_yes ha hb w)
 generalize (Pt.cg ⟨x, y⟩ ⟨u, v⟩).x = p at *
 generalize (Pt.cg ⟨x, y⟩ ⟨u, v⟩).y = q at *
 clear ha hb
 obtain ⟨kb, o1, o2, o3⟩ := boxes3 31 (.int .i64 x) (.int .i64 y) (.int .i64 u) (.int .i64 v) (.int .i64 0) (.int .i64 0) w
 have HB := Lib.hid kb; have D1 := Lib.hid o1; have D2 := Lib.hid o2; have D3 := Lib.hid o3
 clear kb o1 o2 o3
 go_enter Try.func66, Try.ntmps66
 go_wp2_with (fail)
 generalize ((w.alloc (.cells #[.int .i64 x, .int .i64 y] 31)).alloc (.cells #[.int .i64 u, .int .i64 v] 31)).alloc (.cells #[.int .i64 0, .int .i64 0] 31) = v1 at *
 refine (HC.out _).mono ?_
 rintro e w2 ⟨rfl, hb⟩
 have E3 := D3.out.next hb
 have hz := E3.lt
 have K3 := Lib.hid ((E3.set (.int .i64 p) (.int .i64 q)).old (.cells #[.int .i64 p, .int .i64 q] 31))
 have HB2 := Lib.hid ((((Below.next HB.out hb).setCell (p := ⟨w.heap.size + 1 + 1, 0, none⟩) (by show _ ≤ w.heap.size + 1 + 1; omega) (.int .i64 p)).setCell (p := ⟨w.heap.size + 1 + 1, 1, none⟩) (by show _ ≤ w.heap.size + 1 + 1; omega) (.int .i64 q)).alloc (by simp; have := HB.out.size; have := hb.size; omega) (.cells #[.int .i64 p, .int .i64 q] 31))
 obtain ⟨c0, c1, f0, f1⟩ := E3
 clear hb D1 D2 D3 HB
 go_wp2_with (fail)
 clear c0 c1 f0 f1
 obtain ⟨c0, c1, _, _⟩ := K3.out
 have hy := HB2.out
 generalize ((w2.setCell ⟨w.heap.size + 1 + 1, 0, none⟩ (.int .i64 p)).setCell ⟨w.heap.size + 1 + 1, 1, none⟩ (.int .i64 q)).alloc (.cells #[.int .i64 p, .int .i64 q] 31) = w4 at *
 exact bodyPost_ret (v := .agg #[.int .i64 p, .int .i64 q]) (by simp [results, Try.results66, go_sem, c0, c1]) rfl ⟨rfl, hy⟩
end Go.Proofs.Ytamhfjlffacakaa.Jo
namespace Go.Proofs.Ytamhfjlffacakaa.Ga
open Go.ChangeShapes Go.WideShapes Go.ChangeAt Go.RowKit Ov
theorem boxes1' (t : TypeId) (x1 y1 : Value) (w : World) : Below w.heap.size w (w.alloc (.cells #[x1, y1] t)) ∧ Duo (w.alloc (.cells #[x1, y1] t)) w.heap.size x1 y1 := ⟨box1 w _, Duo.made w t x1 y1⟩
theorem rnorm_any {x y : Int} (h : rb ⟨x, y⟩ = true) (w : World) : Calls Try.prog 83 #[.agg #[.int .i64 x, .int .i64 y]] w (Gives (.int .i64 (x * x + y * y)) w) := by
 obtain ⟨hx, hy⟩ := rb_xy h
 obtain ⟨h1, h2⟩ := mul_big hx hx
 obtain ⟨h3, h4⟩ := mul_big hy hy
 clear hx hy h
 go_enter Try.func83, Try.ntmps83
 go_wp2_with (fail)
 go_ret
 exact ⟨rfl, below1 w _⟩
theorem rmul_any {x y u v : Int} (ha : rb ⟨x, y⟩ = true) (hb : rb ⟨u, v⟩ = true) (w : World) : Calls Try.prog 82 #[.agg #[.int .i64 x, .int .i64 y], .agg #[.int .i64 u, .int .i64 v]] w
 (Gives (.agg #[.int .i64 (x * u - y * v), .int .i64 (x * v + y * u)]) w) := by
 obtain ⟨hx, hy⟩ := rb_xy ha
 obtain ⟨hu, hv⟩ := rb_xy hb
 obtain ⟨h1, h2⟩ := mul_big hx hu
 obtain ⟨h3, h4⟩ := mul_big hy hv
 obtain ⟨h5, h6⟩ := mul_big hx hv
 obtain ⟨h7, h8⟩ := mul_big hy hu
 clear hx hy hu hv ha hb
 go_enter Try.func82, Try.ntmps82
 go_wp2_with (fail)
 refine bodyPost_ret (v := .agg #[.int .i64 (x * u - y * v), .int .i64 (x * v + y * u)]) (by simp [results, Try.results82, go_sem]) rfl ⟨rfl, ?_⟩
 exact below3 w _ _ _
set_option maxHeartbeats 1000000 in
theorem rnearest_any {n d : Int} (h1 : -1125899906842624 ≤ n) (h2 : n ≤ 1125899906842624) (h3 : 0 < d) (h4 : d ≤ 1125899906842624) (w : World) :
 Calls Try.prog 84 #[.int .i64 n, .int .i64 d] w (Gives (.int .i64 (near n d)) w) := by
 obtain ⟨t1, t2⟩ := tdiv_le (2 * n + d) (2 * d) 4503599627370496 (by omega) (by omega) (by omega)
 have hn : near n d = (2 * n + d) / (2 * d) := rfl
 have hc := cut_cases (2 * n + d) (2 * d) (by omega)
 have hm := Int.mul_tdiv_add_tmod (2 * n + d) (2 * d)
 have hl := Int.tmod_lt_of_pos (2 * n + d) (show 0 < 2 * d by omega)
 have hg := Int.lt_tmod_of_pos (2 * n + d) (show 0 < 2 * d by omega)
 generalize (2 * n + d).tmod (2 * d) = r at *
 obtain ⟨q, hq⟩ : ∃ q, (2 * n + d).tdiv (2 * d) = q := ⟨_, rfl⟩
 rw [hq] at hc hm t1 t2
 have e1 : 2 * d * q = q * 2 * d := by grind
 have e2 : q * (2 * d) = q * 2 * d := by grind
 rw [e1] at hm
 rw [e2] at hc
 have b1 : -9007199254740992 ≤ q * 2 * d := by omega
 have b2 : q * 2 * d ≤ 9007199254740992 := by omega
 rcases hc with ⟨c1, c2, c3⟩ | ⟨c1, c2, c3⟩
 · have HE := Lib.hid (hn.trans c2.symm)
   clear hn c2 c1 hm hl hg e1 e2
   go_enter Try.func84, Try.ntmps84
   go_wp2_with (fail)
   go_ret
   exact ⟨ret_int (by rw [HE.out]), Below.refl _ _⟩
 · have HE := Lib.hid (hn.trans c2.symm)
   clear hn c2 c1 hm hl hg e1 e2
   go_enter Try.func84, Try.ntmps84
   go_wp2_with (fail)
   go_ret
   exact ⟨ret_int (by rw [HE.out]), Below.refl _ _⟩
set_option maxHeartbeats 2000000 in
theorem rdiv_core (x y u v v' z1 z2 n q1 q2 p1 p2 r1 r2 : Int) (w : World) (hx : -16777216 ≤ x) (hx' : x ≤ 16777216) (hy : -16777216 ≤ y) (hy' : y ≤ 16777216) (hv : -16777216 ≤ v) (hv' : v ≤ 16777216) (hnv : -v = v')
 (hp1 : -562949953421312 ≤ p1) (hp1' : p1 ≤ 562949953421312) (hp2 : -562949953421312 ≤ p2) (hp2' : p2 ≤ 562949953421312) (hr1 : x - p1 = r1) (hr2 : y - p2 = r2)
 (HM1 : Hid (∀ w, Calls Try.prog 82 #[.agg #[.int .i64 x, .int .i64 y], .agg #[.int .i64 u, .int .i64 v']] w (Gives (.agg #[.int .i64 z1, .int .i64 z2]) w)))
 (HN : Hid (∀ w, Calls Try.prog 83 #[.agg #[.int .i64 u, .int .i64 v]] w (Gives (.int .i64 n) w)))
 (HQ1 : Hid (∀ w, Calls Try.prog 84 #[.int .i64 z1, .int .i64 n] w (Gives (.int .i64 q1) w)))
 (HQ2 : Hid (∀ w, Calls Try.prog 84 #[.int .i64 z2, .int .i64 n] w (Gives (.int .i64 q2) w)))
 (HM2 : Hid (∀ w, Calls Try.prog 82 #[.agg #[.int .i64 q1, .int .i64 q2], .agg #[.int .i64 u, .int .i64 v]] w (Gives (.agg #[.int .i64 p1, .int .i64 p2]) w))) :
 Calls Try.prog 69 #[.agg #[.int .i64 x, .int .i64 y], .agg #[.int .i64 u, .int .i64 v]] w (Gives (.tuple #[.agg #[.int .i64 q1, .int .i64 q2], .agg #[.int .i64 r1, .int .i64 r2]]) w) := by
 go_enter Try.func69, Try.ntmps69
 go_wp2_with (fail)
 obtain ⟨hb, d2, d3, d4, d5⟩ := boxes4 31 (.int .i64 x) (.int .i64 y) (.int .i64 u) (.int .i64 v) (.int .i64 0) (.int .i64 0) (.int .i64 0) (.int .i64 0) w
 generalize (((w.alloc (.cells #[.int .i64 x, .int .i64 y] 31)).alloc (.cells #[.int .i64 u, .int .i64 v] 31)).alloc (.cells #[.int .i64 0, .int .i64 0] 31)).alloc (.cells #[.int .i64 0, .int .i64 0] 31) = w0 at *
 have HB := Lib.hid hb; clear hb
 have D2 := Lib.hid d2; have D3 := Lib.hid d3; have D4 := Lib.hid d4; have D5 := Lib.hid d5; clear d2 d3 d4 d5
 refine (HM1.out _).mono ?_
 rintro e w1 ⟨rfl, hb⟩
 obtain ⟨kb, o6⟩ := boxes1' 31 (.int .i64 z1) (.int .i64 z2) w1
 have hg : w.heap.size + 1 + 1 + 1 < w1.heap.size := (D5.out.next hb).lt
 have HB1 := Lib.hid (Below.next (Below.next HB.out hb) kb)
 have E2 := Lib.hid ((D2.out.next hb).next kb); have E3 := Lib.hid ((D3.out.next hb).next kb); have E4 := Lib.hid ((D4.out.next hb).next kb); have E5 := Lib.hid ((D5.out.next hb).next kb)
 have E6 := Lib.hid o6
 clear hb kb o6 HB D2 D3 D4 D5
 obtain ⟨a0, a1, _, _⟩ := E3.out
 go_wp2_with (fail)
 generalize w1.alloc (.cells #[.int .i64 z1, .int .i64 z2] 31) = w2 at *
 generalize w1.heap.size = g at *
 clear a0 a1
 refine (HN.out _).mono ?_
 rintro e w3 ⟨rfl, hb⟩
 have HB2 := Lib.hid (Below.next HB1.out hb)
 have F2 := Lib.hid (E2.out.next hb); have F3 := Lib.hid (E3.out.next hb); have F4 := Lib.hid (E4.out.next hb); have F5 := Lib.hid (E5.out.next hb); have F6 := Lib.hid (E6.out.next hb)
 clear hb HB1 E2 E3 E4 E5 E6
 go_wp2_with (fail)
 refine wp_over_alloc (O := .cells #[.int .i64 0, .int .i64 0] 31) 9 (by kernel_rfl) (by kernel_rfl) rfl rfl rfl (fun ρ x => alloc_spot ρ x _ _ _) (by kernel_rfl) ?_
 simp only [List.take_succ_cons, List.take_zero, List.drop_succ_cons, List.drop_zero]
 apply Exists.intro
 apply And.intro
 · intro x0
   have k1 : ∀ r : Over x0.val, r.val.cell? ⟨g, 0, none⟩ = some (.int .i64 z1) := fun r => ((F6.out.over x0).over r).c0
   have k2 : ∀ r : Over x0.val, r.val.cell? ⟨g, 1, none⟩ = some (.int .i64 z2) := fun r => ((F6.out.over x0).over r).c1
   repeat (go_big_quiet_step (first
    | with_reducible exact over_gives _ (HQ1.out _)
    | with_reducible exact over_gives _ (HQ2.out _)))
   refine wpQuiet_nil ?_
   rfl
 · rintro b w4 HO
   have hb := HO.1
   have hlo := HO.2.1
   have l6 := F6.out.lt
   have G8 := Lib.hid (HO.duo.set (.int .i64 q1) (.int .i64 q2))
   have l2 := F2.out.lt; have l3 := F3.out.lt; have l4 := F4.out.lt; have l5 := F5.out.lt
   have G2 := Lib.hid ((F2.out.next hb).put2 (c := b) (by omega) (.int .i64 q1) (.int .i64 q2))
   have G3 := Lib.hid ((F3.out.next hb).put2 (c := b) (by omega) (.int .i64 q1) (.int .i64 q2))
   have G4 := Lib.hid ((F4.out.next hb).put2 (c := b) (by omega) (.int .i64 q1) (.int .i64 q2))
   have G5 := Lib.hid ((F5.out.next hb).put2 (c := b) (by omega) (.int .i64 q1) (.int .i64 q2))
   have HB3 := Lib.hid (below_put2 (Below.next HB2.out hb) (c := b) (by have := HB2.out.size; omega) (.int .i64 q1) (.int .i64 q2))
   obtain ⟨c0, c1, f0, f1⟩ := HO.duo
   have hbl : b < w4.heap.size := block_lt_of_cell c0
   have ng : Hid (w.heap.size + 1 + 1 + 1 < b) := Lib.hid (by omega)
   clear hb HO F2 F3 F4 F5 F6 HB2 hlo l2 l3 l4 l5 l6
   simp only [Act.put, List.setIfInBounds_toArray, List.set_cons_zero, List.set_cons_succ]
   obtain ⟨b0, b1, _, _⟩ := G8.out
   obtain ⟨e0, e1, _, _⟩ := G3.out
   go_wp2_with (fail)
   generalize ((w4.setCell ⟨b, 0, none⟩ (.int .i64 q1)).setCell ⟨b, 1, none⟩ (.int .i64 q2)) = w5 at *
   clear c0 c1 f0 f1 hbl b0 b1 e0 e1
   refine (HM2.out _).mono ?_
   rintro e w6 ⟨rfl, hb⟩
   obtain ⟨kb, o9⟩ := boxes1' 31 (.int .i64 p1) (.int .i64 p2) w6
   have hg9 : b < w6.heap.size := (G8.out.next hb).lt
   have HB4 := Lib.hid (Below.next (Below.next HB3.out hb) kb)
   have I2 := Lib.hid ((G2.out.next hb).next kb); have I4 := Lib.hid ((G4.out.next hb).next kb); have I5 := Lib.hid ((G5.out.next hb).next kb); have I8 := Lib.hid ((G8.out.next hb).next kb)
   have I9 := Lib.hid o9
   clear hb kb o9 HB3 G2 G3 G4 G5 G8
   go_wp2_with (fail)
   generalize w6.alloc (.cells #[.int .i64 p1, .int .i64 p2] 31) = w7 at *
   have n1 := ng.out
   have n8 : ¬ w.heap.size + 1 + 1 = b := by omega
   have n8' : ¬ b = w.heap.size + 1 + 1 := by omega
   have n9 : ¬ w.heap.size + 1 + 1 = w6.heap.size := by omega
   have n9' : ¬ w6.heap.size = w.heap.size + 1 + 1 := by omega
   generalize w6.heap.size = g9 at *
   have hz := I5.out.lt
   clear n1 hg9 hg
   obtain ⟨a0, a1, _, _⟩ := I2.out
   obtain ⟨b0, b1, _, _⟩ := I8.out
   obtain ⟨c0, c1, _, _⟩ := I9.out
   obtain ⟨e0, e1, g0, g1⟩ := I4.out
   obtain ⟨i0, i1, j0, j1⟩ := I5.out
   go_region
   go_wp2_with (fail)
   refine bodyPost_ret (v := .tuple #[.agg #[.int .i64 q1, .int .i64 q2], .agg #[.int .i64 r1, .int .i64 r2]]) (by simp [results, Try.results69, go_sem, e0, e1, i0, i1]) rfl ⟨rfl, ?_⟩
   exact (below_put2 (below_put2 HB4.out (c := w.heap.size + 1 + 1) (by omega) _ _) (c := w.heap.size + 1 + 1 + 1) (by omega) _ _).drew
theorem rdiv_any {x y u v : Int} (ha : rb ⟨x, y⟩ = true) (hb : rb ⟨u, v⟩ = true) (h0 : (⟨u, v⟩ : Pt) ≠ Pt.zero) (w : World) :
 Calls Try.prog 69 #[.agg #[.int .i64 x, .int .i64 y], .agg #[.int .i64 u, .int .i64 v]] w
  (Gives (.tuple #[.agg #[.int .i64 (Pt.quo ⟨x, y⟩ ⟨u, v⟩).x, .int .i64 (Pt.quo ⟨x, y⟩ ⟨u, v⟩).y], .agg #[.int .i64 (Pt.rest ⟨x, y⟩ ⟨u, v⟩).x, .int .i64 (Pt.rest ⟨x, y⟩ ⟨u, v⟩).y]]) w) := by
 obtain ⟨hx, hy⟩ := rb_xy ha
 obtain ⟨hu, hv⟩ := rb_xy hb
 have hq := Pt.quo_right ha h0
 obtain ⟨hp1, hp2⟩ := rb_yes hq
 have hb' : rb ⟨u, -v⟩ = true := by unfold rb at *; rw [fb_neg]; exact hb
 have hv' := (rb_xy hb').2
 obtain ⟨s1, s1'⟩ := sum_le (mul_big hx hu) (mul_big hy hv')
 obtain ⟨s2, s2'⟩ := sum_le (mul_big hx hv') (mul_big hy hu)
 obtain ⟨s3, s3'⟩ := sum_le (mul_big hp1 hu) (mul_big hp2 hv)
 obtain ⟨s4, s4'⟩ := sum_le (mul_big hp1 hv) (mul_big hp2 hu)
 obtain ⟨s5, s5'⟩ := sum_le (mul_big hu hu) (mul_big hv hv)
 have hn : 0 < Pt.norm ⟨u, v⟩ := Pt.norm_pos h0
 exact rdiv_core x y u v (-v) (x * u - y * -v) (x * -v + y * u) (u * u + v * v) _ _ _ _ _ _ w hx.1 hx.2 hy.1 hy.2 hv.1 hv.2 rfl s3'.1 s3'.2 s4.1 s4.2 rfl rfl (Lib.hid (rmul_any ha hb')) (Lib.hid (rnorm_any hb))
  (Lib.hid (rnearest_any (n := x * u - y * -v) (d := u * u + v * v) (by omega) (by omega) hn (by omega))) (Lib.hid (rnearest_any (n := x * -v + y * u) (d := u * u + v * v) (by omega) (by omega) hn (by omega))) (Lib.hid (rmul_any hq hb))
theorem fs_turn' {a : Pt} (h : ¬ (0 < a.x ∧ 0 ≤ a.y)) : Pt.fs a.turn = Pt.fs a := by
 by_cases h0 : a = Pt.zero
 · subst h0; rfl
 · exact Pt.fs_turn h h0
theorem turns_none {a : Pt} (h : ∀ j, j < 4 → ¬ (0 < (Pt.turns j a).x ∧ 0 ≤ (Pt.turns j a).y)) : a = Pt.zero := by
 have h0 : ¬ (0 < a.x ∧ 0 ≤ a.y) := h 0 (by omega)
 have h1 : ¬ (0 < -a.y ∧ 0 ≤ a.x) := h 1 (by omega)
 have h2 : ¬ (0 < -a.x ∧ 0 ≤ -a.y) := h 2 (by omega)
 have h3 : ¬ (0 < - -a.y ∧ 0 ≤ -a.x) := h 3 (by omega)
 exact Pt.ext (by show a.x = 0; omega) (by show a.y = 0; omega)
def RelR (x y : Int) (w : World) (I : Value) (wr : World) : Prop := ∃ (k : Nat) (p q : Int), k ≤ 4 ∧ I = .int .i64 (k : Int) ∧ Pt.turns k ⟨x, y⟩ = ⟨p, q⟩ ∧ Pt.fs ⟨p, q⟩ = Pt.fs ⟨x, y⟩ ∧
 (∀ j, j < k → ¬ (0 < (Pt.turns j ⟨x, y⟩).x ∧ 0 ≤ (Pt.turns j ⟨x, y⟩).y)) ∧ Duo wr w.heap.size (.int .i64 p) (.int .i64 q) ∧ Duo wr (w.heap.size + 1) (.int .i64 0) (.int .i64 0) ∧ Below w.heap.size w wr
set_option maxHeartbeats 1000000 in
theorem rfirst_any {x y : Int} (h : rb ⟨x, y⟩ = true) (w : World) :
 Calls Try.prog 68 #[.agg #[.int .i64 x, .int .i64 y]] w (Gives (.agg #[.int .i64 (Pt.fs ⟨x, y⟩).x, .int .i64 (Pt.fs ⟨x, y⟩).y]) w) := by
 have H := Lib.hid h; clear h
 go_enter Try.func68, Try.ntmps68
 go_wp2_with (fail)
 obtain ⟨h2, d0, d1⟩ := boxes2 31 (.int .i64 x) (.int .i64 y) (.int .i64 0) (.int .i64 0) w
 have HW : Hid (RelR x y w (.int .i64 0) ((w.alloc (.cells #[.int .i64 x, .int .i64 y] 31)).alloc (.cells #[.int .i64 0, .int .i64 0] 31))) := Lib.hid ⟨0, x, y, by omega, rfl, rfl, rfl, fun j hj => by omega, d0, d1, h2⟩
 clear h2 d0 d1
 go_loopw [3] (fun I wr => RelR x y w I wr) (fun I _ => 4 - (intOf I).toNat)
 case atStart => exact HW.out
 case round =>
  obtain ⟨k, p, q, hk, rfl, ht, hf, hj, d0, d1, hb⟩ := hrel
  have HT := Lib.hid ht; have HF := Lib.hid hf; have HJ := Lib.hid hj; have D0 := Lib.hid d0; have D1 := Lib.hid d1; have HB := Lib.hid hb
  clear ht hf hj d0 d1 hb
  obtain ⟨c0, c1, f0, f1⟩ := D0.out
  obtain ⟨e0, e1, g0, g1⟩ := D1.out
  have hz := D1.out.lt
  by_cases hlt : k < 4
  · by_cases hq : 0 < p ∧ 0 ≤ q
    · have HE : Hid (Pt.fs ⟨x, y⟩ = ⟨p, q⟩) := by
       show _ = _
       rw [← HF.out]; exact Pt.fs_done (.inl hq)
      obtain ⟨q1, q2⟩ := hq
      go_wp2_with (fail)
      refine bodyPost_ret (v := .agg #[.int .i64 p, .int .i64 q]) (by simp [results, Try.results68, go_sem, e0, e1]) rfl ⟨by rw [HE.out], ?_⟩
      exact below_put2 HB.out (c := w.heap.size + 1) (by omega) _ _
    · have HM : Hid (∀ w, Calls Try.prog 82 #[.agg #[.int .i64 p, .int .i64 q], .agg #[.int .i64 0, .int .i64 1]] w (Gives (.agg #[.int .i64 (-q), .int .i64 p]) w)) := Lib.hid fun w => by
       have hr : rb ⟨p, q⟩ = true := by rw [← HT.out]; exact Pt.turns_right _ H.out
       have h1 := rmul_any (u := 0) (v := 1) hr (by decide) w
       rwa [show p * 0 - q * 1 = -q by omega, show p * 1 + q * 0 = p by omega] at h1
      have HT' : Hid (Pt.turns (k + 1) ⟨x, y⟩ = ⟨-q, p⟩) := by
       show (Pt.turns k ⟨x, y⟩).turn = _
       rw [HT.out]; rfl
      have HF' : Hid (Pt.fs ⟨-q, p⟩ = Pt.fs ⟨x, y⟩) := by
       show _ = _
       rw [← HF.out]; exact fs_turn' (a := ⟨p, q⟩) hq
      have HJ' : Hid (∀ j, j < k + 1 → ¬ (0 < (Pt.turns j ⟨x, y⟩).x ∧ 0 ≤ (Pt.turns j ⟨x, y⟩).y)) := Lib.hid fun j hj => by
       by_cases e : j = k
       · subst e; rw [HT.out]; exact hq
       · exact HJ.out j (by omega)
      have hcase : ¬ 0 < p ∨ (0 < p ∧ ¬ 0 ≤ q) := by omega
      clear hq
      generalize -q = q' at *
      rcases hcase with h1 | ⟨h1, h2⟩
      all_goals
       go_wp2_with (fail)
       refine (HM.out _).mono ?_
       rintro e w2 ⟨rfl, hb⟩
       have HO := Lib.hid ((D0.out.next hb).set (.int .i64 q') (.int .i64 p))
       have HP := Lib.hid ((D1.out.next hb).put2 (c := w.heap.size) (by omega) (.int .i64 q') (.int .i64 p))
       have HB2 := Lib.hid (below_put2 (HB.out.trans (hb.mono HB.out.size)) (c := w.heap.size) (Nat.le_refl _) (.int .i64 q') (.int .i64 p))
       obtain ⟨d0, d1, h0, h1⟩ := D0.out.next hb
       have hz := (D0.out.next hb).lt
       clear hb c0 c1 f0 f1 e0 e1 g0 g1
       go_wp2_with (fail)
       go_roundw
       case rel => exact ⟨k + 1, q', p, by omega, by go_num, HT'.out, HF'.out, HJ'.out, HO.out, HP.out, HB2.out⟩
       case measure => simp [intOf]; omega
  · have HE : Hid (Pt.fs ⟨x, y⟩ = ⟨p, q⟩) := by
     obtain rfl : k = 4 := by omega
     have h0 := turns_none HJ.out
     have ht := HT.out
     rw [h0] at ht ⊢
     show Pt.zero = _
     rw [← ht]; rfl
    go_wp2_with (fail)
    refine bodyPost_ret (v := .agg #[.int .i64 p, .int .i64 q]) (by simp [results, Try.results68, go_sem, e0, e1]) rfl ⟨by rw [HE.out], ?_⟩
    exact below_put2 HB.out (c := w.heap.size + 1) (by omega) _ _
set_option maxHeartbeats 2000000 in
theorem rcommon_upto (n : Nat) : ∀ (x y u v : Int) (w : World), (Pt.norm ⟨u, v⟩).toNat < n → rb ⟨x, y⟩ = true → rb ⟨u, v⟩ = true →
 Calls Try.prog 50 #[.agg #[.int .i64 x, .int .i64 y], .agg #[.int .i64 u, .int .i64 v]] w (Gives (.agg #[.int .i64 (Pt.cg ⟨x, y⟩ ⟨u, v⟩).x, .int .i64 (Pt.cg ⟨x, y⟩ ⟨u, v⟩).y]) w) := by
 induction n with
 | zero => intro x y u v w h; omega
 | succ n ih =>
   intro x y u v w hn ha hb
   by_cases h0 : (⟨u, v⟩ : Pt) = Pt.zero
   · have HC := Lib.hid (rfirst_any ha)
     injection h0 with e1 e2
     subst e1; subst e2
     have e : Pt.cg ⟨x, y⟩ ⟨0, 0⟩ = Pt.fs ⟨x, y⟩ := Pt.cg_zero _
     rw [e]
     clear hn ha hb e ih
     generalize (Pt.fs ⟨x, y⟩).x = p at *
     generalize (Pt.fs ⟨x, y⟩).y = q at *
     go_enter Try.func50, Try.ntmps50
     go_wp2_with (fail)
     obtain ⟨kb, d0, d1, d2⟩ := boxes3 31 (.int .i64 x) (.int .i64 y) (.int .i64 0) (.int .i64 0) (.int .i64 0) (.int .i64 0) w
     have HB := Lib.hid kb; have D2 := Lib.hid d2
     clear kb d0 d1 d2
     generalize ((w.alloc (.cells #[.int .i64 x, .int .i64 y] 31)).alloc (.cells #[.int .i64 0, .int .i64 0] 31)).alloc (.cells #[.int .i64 0, .int .i64 0] 31) = w1 at *
     refine (HC.out _).mono ?_
     rintro e w2 ⟨rfl, hb⟩
     have HB2 := Lib.hid (Below.next HB.out hb)
     obtain ⟨e0, e1, g0, g1⟩ := D2.out.next hb
     have hz := (D2.out.next hb).lt
     clear hb
     go_wp2_with (fail)
     refine bodyPost_ret (v := .agg #[.int .i64 p, .int .i64 q]) (by simp [results, Try.results50, go_sem, e0, e1]) rfl ⟨rfl, ?_⟩
     exact below_put2 HB2.out (c := w.heap.size + 1 + 1) (by omega) _ _
   · have HD := Lib.hid (rdiv_any ha hb h0)
     have hr := Pt.rest_right (a := ⟨x, y⟩) hb h0
     have hl := Pt.rest_lt ⟨x, y⟩ h0
     rw [Pt.cg_rest _ h0]
     have hne := not_zero h0
     generalize Pt.rest ⟨x, y⟩ ⟨u, v⟩ = t at *
     obtain ⟨r, s⟩ := t
     have HI := Lib.hid (fun w => ih u v r s w (by omega) hb hr)
     clear ih hn ha hb h0 hr hl
     generalize (Pt.quo ⟨x, y⟩ ⟨u, v⟩).x = qx at *
     generalize (Pt.quo ⟨x, y⟩ ⟨u, v⟩).y = qy at *
     generalize (Pt.cg ⟨u, v⟩ ⟨r, s⟩).x = p at *
     generalize (Pt.cg ⟨u, v⟩ ⟨r, s⟩).y = q at *
     have HD2 : Hid (∀ w, Calls Try.prog 69 #[.agg #[.int .i64 x, .int .i64 y], .agg #[.int .i64 u, .int .i64 v]] w (Gives (.tuple #[.agg #[.int .i64 qx, .int .i64 qy], .agg #[.int .i64 r, .int .i64 s]]) w)) := HD
     clear HD
     rcases hne with h1 | ⟨h1, h2⟩
     all_goals
      go_enter Try.func50, Try.ntmps50
      go_wp2_with (fail)
      obtain ⟨kb, d0, d1, d2⟩ := boxes3 31 (.int .i64 x) (.int .i64 y) (.int .i64 u) (.int .i64 v) (.int .i64 0) (.int .i64 0) w
      have HB := Lib.hid kb; have D1 := Lib.hid d1; have D2 := Lib.hid d2
      clear kb d0 d1 d2
      generalize ((w.alloc (.cells #[.int .i64 x, .int .i64 y] 31)).alloc (.cells #[.int .i64 u, .int .i64 v] 31)).alloc (.cells #[.int .i64 0, .int .i64 0] 31) = w1 at *
      refine (HD2.out _).mono ?_
      rintro e w2 ⟨rfl, hb⟩
      obtain ⟨kb, o5, o6⟩ := boxes2 31 (.int .i64 qx) (.int .i64 qy) (.int .i64 r) (.int .i64 s) w2
      have HB2 := Lib.hid (Below.next (Below.next HB.out hb) kb)
      have E2 := Lib.hid ((D2.out.next hb).next kb)
      obtain ⟨a0, a1, a2, a3⟩ := (D1.out.next hb).next kb
      obtain ⟨b0, b1, b2, b3⟩ := o6
      clear hb kb o5 HB D1 D2
      go_wp2_with (fail)
      generalize (w2.alloc (.cells #[.int .i64 qx, .int .i64 qy] 31)).alloc (.cells #[.int .i64 r, .int .i64 s] 31) = w3 at *
      generalize w2.heap.size = g at *
      clear a0 a1 a2 a3 b0 b1 b2 b3
      refine (HI.out _).mono ?_
      rintro e w4 ⟨rfl, hb⟩
      have HB3 := Lib.hid (Below.next HB2.out hb)
      obtain ⟨e0, e1, g0, g1⟩ := E2.out.next hb
      have hz := (E2.out.next hb).lt
      clear hb
      go_wp2_with (fail)
      refine bodyPost_ret (v := .agg #[.int .i64 p, .int .i64 q]) (by simp [results, Try.results50, go_sem, e0, e1]) rfl ⟨rfl, ?_⟩
      exact below_put2 HB3.out (c := w.heap.size + 1 + 1) (by omega) _ _
theorem rcommon_any {x y u v : Int} (ha : rb ⟨x, y⟩ = true) (hb : rb ⟨u, v⟩ = true) (w : World) :
 Calls Try.prog 50 #[.agg #[.int .i64 x, .int .i64 y], .agg #[.int .i64 u, .int .i64 v]] w (Gives (.agg #[.int .i64 (Pt.cg ⟨x, y⟩ ⟨u, v⟩).x, .int .i64 (Pt.cg ⟨x, y⟩ ⟨u, v⟩).y]) w) :=
 rcommon_upto _ x y u v w (Nat.lt_succ_self _) ha hb
end Go.Proofs.Ytamhfjlffacakaa.Ga

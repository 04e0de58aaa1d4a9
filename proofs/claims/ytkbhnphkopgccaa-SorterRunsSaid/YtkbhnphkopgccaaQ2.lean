/-
  Small texts of this claim, together: PrMath, StKit, StSwap, StRuns, PrRead, VaOrder.
-/
import Derived.Test.YtkbhnphkopgccaaQ1
import Derived.Test.YtkbhnphkopgccaaQStMath
import Derived.Test.YtkbhnphkopgccaaRows
import Derived.Shelf.SlSortCmp.KitK
import Derived.Sort.WalkB2
import Derived.Sort.WalkB12
import Derived.Deep.LoopGhost
import Derived.Lib.Hide
import Derived.Test.YtkbhnphkopgccaaQVaRight
namespace Go.Proofs.Ytkbhnphkopgccaa.Pr
open Va St Go.Sort
abbrev Pr := List UInt8 × Va
def pz : Pr := ([], ⟨0, 0, [], 0, 0⟩)
instance : Inhabited Pr := ⟨pz⟩
def ck (a b : Pr) : Int := cS a.1 b.1
def kl (a b : Pr) : Bool := Op.bytesLess a.1 b.1
theorem ck_kl (a b : Pr) : decide (ck a b < 0) = kl a b := by
 unfold ck kl cS
 rcases less_total a.1 b.1 with h | h | h
 · rw [if_pos h, h]; rfl
 · rw [if_neg (by rw [less_asymm h]; simp), if_pos h, less_asymm h]; rfl
 · rw [h, less_irrefl]; rfl
theorem swo : SWO kl where
 irrefl := fun x => less_irrefl x.1
 trans := fun x y z h1 h2 => less_trans h1 h2
 ntrans := fun x y z h1 h2 => by
  cases h : kl x z with
  | false => rfl
  | true =>
    rcases less_total y.1 z.1 with g | g | g
    · rcases less_total x.1 y.1 with f | f | f
      · exact absurd (show kl x y = true from f) (by rw [h1]; simp)
      · exact absurd (show kl y z = true from g) (by rw [h2]; simp)
      · exact absurd (show kl y z = true from g) (by rw [h2]; simp)
    · have := less_trans (show Op.bytesLess x.1 z.1 = true from h) g
      exact absurd (show kl x y = true from this) (by rw [h1]; simp)
    · have e : kl x y = kl x z := by unfold kl; rw [g]
      rw [← e, h1] at h; cases h
def Od (l : List Pr) : Prop := l.Pairwise fun a b => kl b a = false
def ky (k : List UInt8) (l : List Pr) : List Pr := l.filter fun p => decide (p.1 = k)
theorem cls_key (k : List UInt8) : Cls kl fun p => decide (p.1 = k) := fun x y hx hy => by
 have e1 := of_decide_eq_true hx; have e2 := of_decide_eq_true hy
 unfold kl; rw [e1, e2]; exact less_irrefl k
def insb (p : Pr) : List Pr → List Pr
 | [] => [p]
 | x :: t => if kl x p = true then x :: insb p t else p :: x :: t
def sr : List Pr → List Pr
 | [] => []
 | p :: t => insb p (sr t)
theorem insb_mem (p x : Pr) (l : List Pr) : x ∈ insb p l ↔ x = p ∨ x ∈ l := by
 induction l with
 | nil => simp [insb]
 | cons y t ih =>
   unfold insb
   split
   · rw [List.mem_cons, ih, List.mem_cons]
     constructor
     · rintro (h | h | h) <;> simp [h]
     · rintro (h | h | h) <;> simp [h]
   · rw [List.mem_cons]
theorem insb_od (p : Pr) (l : List Pr) (h : Od l) : Od (insb p l) := by
 induction l with
 | nil => exact List.pairwise_singleton _ _
 | cons x t ih =>
   obtain ⟨h1, h2⟩ := List.pairwise_cons.1 h
   unfold insb
   split
   · rename_i hc
     refine List.pairwise_cons.2 ⟨fun y hy => ?_, ih h2⟩
     rcases (insb_mem p y t).1 hy with rfl | hy
     · exact swo.asymmA hc
     · exact h1 y hy
   · rename_i hc
     refine List.pairwise_cons.2 ⟨fun y hy => ?_, h⟩
     rcases List.mem_cons.1 hy with rfl | hy
     · simpa using hc
     · exact swo.ntrans _ _ _ (h1 y hy) (by simpa using hc)
theorem insb_ky (p : Pr) (l : List Pr) (k : List UInt8) : ky k (insb p l) = ky k (p :: l) := by
 induction l with
 | nil => rfl
 | cons x t ih =>
   unfold insb
   split
   · rename_i hc
     unfold ky at ih ⊢
     by_cases hx : x.1 = k
     · have hp : p.1 ≠ k := fun e => by
        have : kl x p = false := by unfold kl; rw [hx, e]; exact less_irrefl k
        rw [this] at hc; cases hc
       simp only [List.filter_cons, ih]
       simp [hx, hp]
     · simp only [List.filter_cons, ih]
       simp [hx]
   · rfl
theorem sr_od (l : List Pr) : Od (sr l) := by
 induction l with
 | nil => exact List.Pairwise.nil
 | cons p t ih => exact insb_od p _ ih
theorem sr_ky (l : List Pr) (k : List UInt8) : ky k (sr l) = ky k l := by
 induction l with
 | nil => rfl
 | cons p t ih =>
   show ky k (insb p (sr t)) = _
   rw [insb_ky]
   unfold ky at ih ⊢
   rw [List.filter_cons, List.filter_cons, ih]
theorem od_uniq (l m : List Pr) (hl : Od l) (hm : Od m) (h : ∀ k, ky k l = ky k m) : l = m := by
 have none : ∀ (l : List Pr) (k : List UInt8), (∀ x ∈ l, x.1 ≠ k) → ky k l = [] := fun l k hk => List.filter_eq_nil_iff.2 fun x hx => by simpa using hk x hx
 have key : ∀ (x : Pr) (l : List Pr), ky x.1 (x :: l) = x :: ky x.1 l := fun x l => List.filter_cons_of_pos (by simp)
 induction l generalizing m with
 | nil => cases m with
   | nil => rfl
   | cons y t => have := h y.1; rw [key] at this; cases this
 | cons x t ih =>
   cases m with
   | nil => have := h x.1; rw [key] at this; cases this
   | cons y u =>
     obtain ⟨a1, a2⟩ := List.pairwise_cons.1 hl
     obtain ⟨b1, b2⟩ := List.pairwise_cons.1 hm
     have e : x.1 = y.1 := by
      rcases less_total x.1 y.1 with g | g | g
      · have := h x.1
        rw [key, none (y :: u) x.1 fun z hz e => by
         rcases List.mem_cons.1 hz with rfl | hz
         · rw [e, less_irrefl] at g; cases g
         · have := b1 z hz
           unfold kl at this; rw [e, g] at this; cases this] at this
        cases this
      · have := h y.1
        rw [key, none (x :: t) y.1 fun z hz e => by
         rcases List.mem_cons.1 hz with rfl | hz
         · rw [e, less_irrefl] at g; cases g
         · have := a1 z hz
           unfold kl at this; rw [e, g] at this; cases this] at this
        cases this
      · exact g
     have hx := h x.1
     rw [key] at hx
     rw [e, key] at hx
     obtain ⟨e1, _⟩ := List.cons.inj hx
     subst e1
     congr 1
     refine ih u a2 b2 fun k => ?_
     have := h k
     unfold ky at this ⊢
     rw [List.filter_cons, List.filter_cons] at this
     split at this
     · exact (List.cons.inj this).2
     · exact this
theorem sr_uniq (l m : List Pr) (hl : Od l) (h : ∀ k, ky k l = ky k m) : l = sr m := od_uniq l (sr m) hl (sr_od m) fun k => by rw [h k, sr_ky]
theorem ky_append (k : List UInt8) (a b : List Pr) : ky k (a ++ b) = ky k a ++ ky k b := List.filter_append ..
theorem sr_len (l : List Pr) : (sr l).length = l.length := by
 have insl : ∀ (p : Pr) (l : List Pr), (insb p l).length = l.length + 1 := fun p l => by
  induction l with
  | nil => rfl
  | cons x t ih => unfold insb; split <;> simp [ih]
 induction l with
 | nil => rfl
 | cons p t ih => show (insb p (sr t)).length = _; rw [insl, ih]; rfl
theorem sr_mem (l : List Pr) (x : Pr) : x ∈ sr l ↔ x ∈ l := by
 have e : ∀ l : List Pr, x ∈ l ↔ x ∈ ky x.1 l := fun l => by simp [ky]
 rw [e, sr_ky, ← e]
theorem sr_of_srt {d d' : Array Pr} (h : Srt kl 0 d.size d d') : d'.toList = sr d.toList := by
 refine sr_uniq _ _ ?_ fun k => h.stab _ (cls_key k)
 rw [Od, List.pairwise_iff_getElem]
 intro i j hi hj hij
 have e := h.ord i j (Nat.zero_le _) hij (by rw [← h.size]; simpa using hj)
 rw [getElem!_pos d' i (by simpa using hi), getElem!_pos d' j (by simpa using hj)] at e
 simpa using e
end Go.Proofs.Ytkbhnphkopgccaa.Pr
namespace Go.Proofs.Ytkbhnphkopgccaa.St
open Go.Proofs Go.RowKit Go.Shelf Go.Lib Go.Sort
structure StL (P : Program) : Prop where
 mixed : P.follows .mixedOrders = true
 fI : P.funcs[78]? = some Try.f78
 fM : P.funcs[79]? = some Try.f79
 fR : P.funcs[90]? = some Try.f90
 fS : P.funcs[99]? = some Try.f99
 fT : P.funcs[57]? = some Try.f57
 fO : P.funcs[36]? = some Try.f36
 t0 : P.underlying 0 = some (TypeDesc.tuple #[])
 a0 : ∀ w, (isAgg 0).run P w = .ok false w
 z0 : ∀ w, (Go.sizeOf 0).run P w = .ok 1 w
 v0 : ∀ w, (zeroValue 0).run P w = .ok (Value.tuple #[]) w
 t3 : P.underlying 3 = some (TypeDesc.int IntKind.i64)
 a3 : ∀ w, (isAgg 3).run P w = .ok false w
 z3 : ∀ w, (Go.sizeOf 3).run P w = .ok 1 w
 v3 : ∀ w, (zeroValue 3).run P w = .ok (Value.int IntKind.i64 0) w
 t4 : P.underlying 4 = some (TypeDesc.bool)
 a4 : ∀ w, (isAgg 4).run P w = .ok false w
 z4 : ∀ w, (Go.sizeOf 4).run P w = .ok 1 w
 v4 : ∀ w, (zeroValue 4).run P w = .ok (Value.bool false) w
 t22 : P.underlying 22 = some (TypeDesc.slice 49)
 a22 : ∀ w, (isAgg 22).run P w = .ok false w
 z22 : ∀ w, (Go.sizeOf 22).run P w = .ok 1 w
 v22 : ∀ w, (zeroValue 22).run P w = .ok (Value.slice none 0 0) w
 t25 : P.underlying 71 = some (TypeDesc.func #[49, 49] #[3] false)
 a25 : ∀ w, (isAgg 71).run P w = .ok false w
 z25 : ∀ w, (Go.sizeOf 71).run P w = .ok 1 w
 v25 : ∀ w, (zeroValue 71).run P w = .ok (Value.nilFunc) w
 tu : P.underlying 122 = some (TypeDesc.int IntKind.u64)
 au : ∀ w, (isAgg 122).run P w = .ok false w
 zu : ∀ w, (Go.sizeOf 122).run P w = .ok 1 w
 vu : ∀ w, (zeroValue 122).run P w = .ok (Value.int IntKind.u64 0) w
theorem stL : StL Try.prog where
 mixed := by kernel_rfl
 fI := by kernel_rfl
 fM := by kernel_rfl
 fR := by kernel_rfl
 fS := by kernel_rfl
 fT := by kernel_rfl
 fO := by kernel_rfl
 t0 := by kernel_rfl
 a0 := fun _ => by kernel_rfl
 z0 := fun _ => by kernel_rfl
 v0 := fun _ => by kernel_rfl
 t3 := by kernel_rfl
 a3 := fun _ => by kernel_rfl
 z3 := fun _ => by kernel_rfl
 v3 := fun _ => by kernel_rfl
 t4 := by kernel_rfl
 a4 := fun _ => by kernel_rfl
 z4 := fun _ => by kernel_rfl
 v4 := fun _ => by kernel_rfl
 t22 := by kernel_rfl
 a22 := fun _ => by kernel_rfl
 z22 := fun _ => by kernel_rfl
 v22 := fun _ => by kernel_rfl
 t25 := by kernel_rfl
 a25 := fun _ => by kernel_rfl
 z25 := fun _ => by kernel_rfl
 v25 := fun _ => by kernel_rfl
 tu := by kernel_rfl
 au := fun _ => by kernel_rfl
 zu := fun _ => by kernel_rfl
 vu := fun _ => by kernel_rfl
def ren : Ren := ⟨fun | 20 => 78 | n => n, fun | 0 => 0 | 3 => 3 | 4 => 4 | 22 => 22 | 24 => 49 | 25 => 71 | n => n, fun n => n⟩
theorem StL.ins {P : Program} (L : StL P) : SlLaysF0.n20 P ren :=
 { mixed := L.mixed, f20 := ⟨Try.f78.name, by kernel_rfl, L.fI.trans (by kernel_rfl)⟩, t0 := L.t0, a0 := L.a0, z0 := L.z0, v0 := L.v0, t3 := L.t3, a3 := L.a3, z3 := L.z3, v3 := L.v3, t4 := L.t4, a4 := L.a4, z4 := L.z4, v4 := L.v4, t22 := L.t22, a22 := L.a22, z22 := L.z22, v22 := L.v22, t25 := L.t25, a25 := L.a25, z25 := L.z25, v25 := L.v25 }
section
variable {P : Program} {α : Type} [Inhabited α]
set_option maxHeartbeats 4000000 in
set_option maxRecDepth 1000000 in
theorem swapRange (L : StL P) (k : Nat) (aE : ∀ w, (isAgg 49).run P w = .ok true w) (zE : ∀ w, (Go.sizeOf 49).run P w = .ok k w) (enc : α → List Value) (g : Nat) (cb : Array Value) (blk off cap a b n : Nat) (d0 d : Array α) (w0 w : World)
 (R : RowK enc k w0 blk off d0) (hs : d0.size = d.size) (S : SWK enc k w0 blk off d w) (hab : a + n ≤ b) (hb : b + n ≤ d.size) (hsz : d.size < 4611686018427387904) :
 Calls P 99 #[.slice (some ⟨blk, off, none⟩) d.size cap, .int .i64 a, .int .i64 b, .int .i64 n, .func (.func g) #[] cb] w fun e w' => e = .returned (.tuple #[]) ∧ ∃ d', Sw a b n d d' ∧ SWK enc k w0 blk off d' w' := by
 have mixed := L.mixed
 have t0 := L.t0
 have a0 := L.a0
 have z0 := L.z0
 have v0 := L.v0
 have t3 := L.t3
 have a3 := L.a3
 have z3 := L.z3
 have v3 := L.v3
 have t4 := L.t4
 have a4 := L.a4
 have z4 := L.z4
 have v4 := L.v4
 have t22 := L.t22
 have a22 := L.a22
 have z22 := L.z22
 have v22 := L.v22
 have t25 := L.t25
 have a25 := L.a25
 have z25 := L.z25
 have v25 := L.v25
 have tu := L.tu
 have au := L.au
 have zu := L.zu
 have vu := L.vu
 have S0 : Aside (SWK enc k w0 blk off d w) := S
 clear S
 go_enter L.fS, Try.ntmps99
 go_wp2
 go_loopg [10] n (fun kx s10 wr => ∃ (i : Nat) (dk : Array α), s10 = .int .i64 i ∧ i ≤ n ∧ n - i ≤ kx ∧ dk.size = d.size ∧ Aside (Sw a b i d dk) ∧ Aside (SWK enc k w0 blk off dk wr))
 case atStart => exact ⟨0, d, rfl, Nat.zero_le _, Nat.le_refl _, rfl, Sw.zero a b d, S0⟩
 case round =>
  clear S0
  obtain ⟨i, dk, rfl, hi, hkx, hds, HS, S1⟩ := hrel
  by_cases hlt : i < n
  · have hltz : (i : Int) < (n : Int) := by omega
    go_wp2_with fail
    have ea1 : ((a : Int) + (i : Int)).toNat = a + i := by omega
    have pa1 : (0 : Int) ≤ (a : Int) + (i : Int) := by omega
    have ba1 : (a : Int) + (i : Int) < (d.size : Int) := by omega
    have ra1 : IntKind.i64.wrap ((a : Int) + (i : Int)) = (a : Int) + (i : Int) := by rw [IntKind.wrap_i64]; omega
    have ec1 : ((b : Int) + (i : Int)).toNat = b + i := by omega
    have pc1 : (0 : Int) ≤ (b : Int) + (i : Int) := by omega
    have bc1 : (b : Int) + (i : Int) < (d.size : Int) := by omega
    have rc1 : IntKind.i64.wrap ((b : Int) + (i : Int)) = (b : Int) + (i : Int) := by rw [IntKind.wrap_i64]; omega
    have S2 : Aside (SWK enc k w0 blk off (swp dk (a + i) (b + i)) ((wr.drew.setCells blk (off + (a + i) * k) (enc dk[b + i]!)).setCells blk (off + (b + i) * k) (enc dk[a + i]!))) := S1.out.swapped R (a + i) (b + i) (by omega) (by omega)
    have l1a := S1.out.ld1 R (by omega) P (a + i) (by omega)
    have l1b := S1.out.ld1 R (by omega) P (b + i) (by omega)
    have s1a := S1.out.st1 R (by omega) P (a + i) (by omega) dk[b + i]!
    have s1b := S1.out.st2 R (by omega) P (a + i) (b + i) (by omega) (by omega) dk[b + i]! dk[a + i]!
    have n1a : (enc dk[a + i]!).length = k := R.hk _
    have n1b : (enc dk[b + i]!).length = k := R.hk _
    generalize enc dk[a + i]! = cI1 at S2 l1a s1b n1a
    generalize enc dk[b + i]! = cJ1 at S2 l1b s1a s1b n1b
    clear S1
    go_wp2_with fail
    go_big_region_o
    clear l1a l1b s1a s1b
    generalize (wr.drew.setCells blk (off + (a + i) * k) cJ1).setCells blk (off + (b + i) * k) cI1 = w2 at S2 ⊢
    go_wp2
    go_roundg (n - (i + 1))
    case measure => omega
    case rel => exact ⟨i + 1, swp dk (a + i) (b + i), by go_num, by omega, Nat.le_refl _, by rw [size_swp]; exact hds, HS.out.step (by omega) (by omega), S2⟩
  · have hltz : ¬ (i : Int) < (n : Int) := by omega
    obtain rfl : i = n := by omega
    go_wp2
    go_end0
    exact ⟨rfl, dk, HS.out, S1.out⟩
set_option maxHeartbeats 4000000 in
set_option maxRecDepth 1000000 in
theorem rotate (L : StL P) (k : Nat) (aE : ∀ w, (isAgg 49).run P w = .ok true w) (zE : ∀ w, (Go.sizeOf 49).run P w = .ok k w) (enc : α → List Value) (g : Nat) (cb : Array Value) (blk off cap a m b : Nat) (d0 d : Array α) (w0 w : World)
 (R : RowK enc k w0 blk off d0) (hs : d0.size = d.size) (S : SWK enc k w0 blk off d w) (ham : a < m) (hmb : m < b) (hb : b ≤ d.size) (hsz : d.size < 4611686018427387904) :
 Calls P 90 #[.slice (some ⟨blk, off, none⟩) d.size cap, .int .i64 a, .int .i64 m, .int .i64 b, .func (.func g) #[] cb] w fun e w' => e = .returned (.tuple #[]) ∧ ∃ d', Rot a m b d d' ∧ SWK enc k w0 blk off d' w' := by
 have mixed := L.mixed
 have t0 := L.t0
 have a0 := L.a0
 have z0 := L.z0
 have v0 := L.v0
 have t3 := L.t3
 have a3 := L.a3
 have z3 := L.z3
 have v3 := L.v3
 have t4 := L.t4
 have a4 := L.a4
 have z4 := L.z4
 have v4 := L.v4
 have t22 := L.t22
 have a22 := L.a22
 have z22 := L.z22
 have v22 := L.v22
 have t25 := L.t25
 have a25 := L.a25
 have z25 := L.z25
 have v25 := L.v25
 have tu := L.tu
 have au := L.au
 have zu := L.zu
 have vu := L.vu
 have eS : ∀ args w, (callFunc 99 args).run P w = .ok (.enter 99 args) w := enters_of L.fS (by kernel_rfl) rfl
 have S0 : Aside (SWK enc k w0 blk off d w) := S
 clear S
 go_enter L.fR, Try.ntmps90
 go_wp2
 go_loopg [10, 11] (b - a) (fun kx s10 s11 wr => ∃ (i j : Nat) (dk : Array α), s10 = .int .i64 i ∧ s11 = .int .i64 j ∧ 1 ≤ i ∧ 1 ≤ j ∧ i + a ≤ m ∧ m + j ≤ b ∧ i + j ≤ kx ∧ dk.size = d.size ∧
  Aside (∀ d', Rot (m - i) m (m + j) dk d' → Rot a m b d d') ∧ Aside (SWK enc k w0 blk off dk wr))
 case atStart => exact ⟨m - a, b - m, d, by go_num, by go_num, by omega, by omega, by omega, by omega, by omega, rfl, fun d' h => by rw [show m - (m - a) = a by omega, show m + (b - m) = b by omega] at h; exact h, S0⟩
 case round =>
  clear S0
  obtain ⟨i, j, dk, rfl, rfl, hi, hj, him, hjb, hkx, hds, HR, S1⟩ := hrel
  have ri : IntKind.i64.wrap ((m : Int) - (i : Int)) = (m : Int) - (i : Int) := by rw [IntKind.wrap_i64]; omega
  rcases Nat.lt_trichotomy i j with hij | hij | hij
  · have hne : ¬ (i : Int) = (j : Int) := by omega
    have hgt : ¬ (j : Int) < (i : Int) := by omega
    have r1 : IntKind.i64.wrap ((m : Int) + (j : Int)) = (m : Int) + (j : Int) := by rw [IntKind.wrap_i64]; omega
    have r2 : IntKind.i64.wrap ((m : Int) + (j : Int) - (i : Int)) = (m : Int) + (j : Int) - (i : Int) := by rw [IntKind.wrap_i64]; omega
    have hsw := swapRange L k aE zE enc g cb blk off cap (m - i) (m + j - i) i d0 dk w0 wr R (by omega) S1.out (by omega) (by omega) (by omega)
    rw [hds, show ((m - i : Nat) : Int) = (m : Int) - (i : Int) by omega, show ((m + j - i : Nat) : Int) = (m : Int) + (j : Int) - (i : Int) by omega] at hsw
    go_wp2_with (go_at_fn 99; refine hsw.mono ?_; rintro e w1 ⟨rfl, d1, h1, S2⟩)
    go_roundg (i + (j - i))
    case measure => omega
    case rel => exact ⟨i, j - i, d1, rfl, by go_num, hi, by omega, him, by omega, Nat.le_refl _, h1.1.trans hds, fun d' h => HR.out d' (Rot.less hij (by omega) h1 h), S2⟩
  · subst hij
    have hsw := swapRange L k aE zE enc g cb blk off cap (m - i) m i d0 dk w0 wr R (by omega) S1.out (by omega) (by omega) (by omega)
    rw [hds, show ((m - i : Nat) : Int) = (m : Int) - (i : Int) by omega] at hsw
    go_wp2_with (go_at_fn 99; refine hsw.mono ?_; rintro e w1 ⟨rfl, d1, h1, S2⟩)
    go_end0
    exact ⟨rfl, d1, HR.out d1 (Rot.of_sw (by omega) h1), S2⟩
  · have hne : ¬ (i : Int) = (j : Int) := by omega
    have hgt : (j : Int) < (i : Int) := by omega
    have hsw := swapRange L k aE zE enc g cb blk off cap (m - i) m j d0 dk w0 wr R (by omega) S1.out (by omega) (by omega) (by omega)
    rw [hds, show ((m - i : Nat) : Int) = (m : Int) - (i : Int) by omega] at hsw
    go_wp2_with (go_at_fn 99; refine hsw.mono ?_; rintro e w1 ⟨rfl, d1, h1, S2⟩)
    go_roundg (i - j + j)
    case measure => omega
    case rel => exact ⟨i - j, j, d1, by go_num, rfl, by omega, hj, by omega, hjb, Nat.le_refl _, h1.1.trans hds, fun d' h => HR.out d' (Rot.more hij (by omega) h1 h), S2⟩
end
end Go.Proofs.Ytkbhnphkopgccaa.St
namespace Go.Proofs.Ytkbhnphkopgccaa.St
open Go.Sort
section
variable {α : Type} [Inhabited α] {lt : α → α → Bool}
inductive Runs (lt : α → α → Bool) (bs n : Nat) (d : Array α) : Nat → Prop
 | fin {a : Nat} (h : n ≤ a) : Runs lt bs n d a
 | run {a : Nat} (h : SortedIn lt a (min (a + bs) n) d) (t : Runs lt bs n d (a + bs)) : Runs lt bs n d a
inductive Done (lt : α → α → Bool) (bs : Nat) (d : Array α) : Nat → Prop
 | zero : Done lt bs d 0
 | run {a : Nat} (h : Done lt bs d a) (t : SortedIn lt a (a + bs) d) : Done lt bs d (a + bs)
theorem Runs.open {bs n a : Nat} {d : Array α} (h : Runs lt bs n d a) (ha : a < n) : SortedIn lt a (min (a + bs) n) d ∧ Runs lt bs n d (a + bs) := by
 cases h with
 | fin h => omega
 | run h t => exact ⟨h, t⟩
theorem Runs.same {bs n a : Nat} {d d' : Array α} (h : Runs lt bs n d a) (he : ∀ i, a ≤ i → d'[i]! = d[i]!) : Runs lt bs n d' a := by
 induction h with
 | fin h => exact .fin h
 | run h t ih => exact .run (si_same h fun i i1 _ => he i i1) (ih fun i hi => he i (by omega))
theorem Done.same {bs a : Nat} {d d' : Array α} (h : Done lt bs d a) (he : ∀ i, i < a → d'[i]! = d[i]!) : Done lt bs d' a := by
 induction h with
 | zero => exact .zero
 | run h t ih => exact .run (ih fun i hi => he i (by omega)) (si_same t fun i _ i2 => he i i2)
theorem Done.all {bs n a : Nat} {d : Array α} (h : Done lt bs d a) (hr : Runs lt bs n d a) (ha : a ≤ n) : Runs lt bs n d 0 := by
 induction h with
 | zero => exact hr
 | run h t ih => exact ih (.run (si_part t (Nat.le_refl _) (by omega)) hr) (by omega)
theorem Runs.last {bs n a : Nat} {d : Array α} (h : SortedIn lt a n d) (hb : n ≤ a + bs) : Runs lt bs n d a := .run (si_part h (Nat.le_refl _) (by omega)) (.fin hb)
def Pm (lt : α → α → Bool) (d d' : Array α) : Prop := PermIn 0 d.size d d' ∧ Stab lt d d'
theorem Pm.refl (d : Array α) : Pm lt d d := ⟨permIn_refl d 0 d.size, Stab.refl d⟩
theorem Pm.next {d d1 d2 : Array α} {a b : Nat} (h : Pm lt d d1) (k : Srt lt a b d1 d2) (hb : b ≤ d.size) : Pm lt d d2 :=
 ⟨permIn_trans _ _ _ _ _ h.1 (permIn_mono _ _ a b 0 d.size (Nat.zero_le _) hb (by rw [h.1.1]; exact Nat.le_refl _) k.perm), h.2.trans k.stab⟩
theorem Pm.done {d d' : Array α} (h : Pm lt d d') (ho : SortedIn lt 0 d.size d') : Srt lt 0 d.size d d' := ⟨h.1, h.2, ho⟩
end
end Go.Proofs.Ytkbhnphkopgccaa.St
namespace Go.Proofs.Ytkbhnphkopgccaa.Pr
open Ov Tp Va
def bs1 (p : Pr) : List UInt8 := (nb p.1.length ++ p.1) ++ vb p.2
def lbs (l : List Pr) : List UInt8 := l.flatMap bs1
def lb (l : List Pr) : List UInt8 := nb l.length ++ lbs l
def rp (p : Pr) : Bool := decide (p.1.length ≤ 64) && rt p.2
def rl (l : List Pr) : Bool := l.all rp
end Go.Proofs.Ytkbhnphkopgccaa.Pr
namespace Go.Proofs.Ytkbhnphkopgccaa.Va
open Go.ChangeShapes Go.WideShapes Go.ChangeAt Go.RowKit Ov Ga
theorem over_id {w : World} {P : Program} {f : FuncId} {args : Array Value} {v : Value} (q : Over w) (h : Calls P f args q.val fun e w' => e = .returned v ∧ q.val = w') :
 Calls P f args q.val fun e w' => e = .returned v ∧ ∃ q' : Over w, w' = q'.val := h.mono fun _ _ ⟨he, hw⟩ => ⟨he, q, hw.symm⟩
def orl : List Int → Int
 | [] => 0
 | a :: t => if a ≠ 0 then a else orl t
theorem orl_drop {l : List Int} {k : Nat} (h : k < l.length) : orl (l.drop k) = if l[k] ≠ 0 then l[k] else orl (l.drop (k + 1)) := by
 rw [List.drop_eq_getElem_cons h]; rfl
set_option maxHeartbeats 1000000 in
theorem or_any (l : List Int) (b : Nat) (w : World) (h : Blk w b (l.map fun a => Value.int .i64 a)) (hl : l.length ≤ 4) : Calls Try.prog 70 #[.slice (some ⟨b, 0, none⟩) l.length l.length] w fun e w' => e = .returned (.int .i64 (orl l)) ∧ w = w' := by
 have H := Lib.hid h; clear h
 obtain ⟨n, hn⟩ : ∃ n, l.length = n := ⟨_, rfl⟩
 rw [hn] at hl ⊢
 have HN := Lib.hid hn; clear hn
 go_enter Try.func70, Try.ntmps70
 go_wp2_with (fail)
 go_loop [5, 8] (fun _ i => ∃ k : Nat, k ≤ n ∧ i = .int .i64 k ∧ orl l = orl (l.drop k)) (fun _ i => n - (intOf i).toNat)
 case atStart => exact ⟨0, Nat.zero_le _, rfl, by simp⟩
 case round =>
  obtain ⟨k, hk, rfl, hd⟩ := hrel
  have HD := Lib.hid hd; clear hd
  by_cases hlt : k < n
  · have hkl : k < l.length := by have := HN.out; omega
    obtain ⟨a, ha⟩ : ∃ a, l[k] = a := ⟨_, rfl⟩
    have HS : Hid (orl (l.drop k) = if a ≠ 0 then a else orl (l.drop (k + 1))) := by
     show _ = _
     rw [orl_drop hkl, ha]
    have hc : w.cell? ⟨b, k, none⟩ = some (.int .i64 a) := H.out.c k _ (by rw [List.getElem?_map, List.getElem?_eq_getElem hkl, ha]; rfl)
    clear ha hkl
    by_cases hz : a = 0
    · subst hz
      go_wp2_with (fail)
      go_round
      case rel => exact ⟨k + 1, by omega, by go_num, by rw [HD.out, HS.out]; rfl⟩
      case measure => simp [intOf]; omega
    · have hne : (a != 0) = true := bne_iff_ne.2 hz
      have HZ := Lib.hid hz; clear hz
      go_wp2_with (fail)
      go_ret
      exact ⟨ret_int (by rw [HD.out, HS.out, if_pos HZ.out]), rfl⟩
  · have HS : Hid (orl (l.drop k) = 0) := by
     show _ = _
     rw [List.drop_of_length_le (by have := HN.out; omega)]; rfl
    go_wp2_with (fail)
    go_ret
    exact ⟨ret_int (by rw [HD.out, HS.out]), rfl⟩
end Go.Proofs.Ytkbhnphkopgccaa.Va

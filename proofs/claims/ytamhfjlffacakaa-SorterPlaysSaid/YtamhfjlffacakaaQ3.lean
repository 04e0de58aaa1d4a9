/-
  Small texts of this claim, together: SoFoldM, StSort, PrMem, PrCat, SoMem, JoRefG, JoRefC1, JoRefD1, JoRefE1, JoRefF1, PrArg.
-/
import Derived.Test.YtamhfjlffacakaaQ1
import Derived.Test.YtamhfjlffacakaaQSoMath
import Derived.Test.YtamhfjlffacakaaQStSym
import Derived.Test.YtamhfjlffacakaaQ2
import Derived.Lib.OwnBridge
import Derived.Deep.Heap
import Derived.Shelf.Spec.SlicesGrow
import Derived.Laws.AppendOwnNone
import Derived.Laws.OwnMore
import Derived.Test.YtamhfjlffacakaaQJoFold2
import Derived.Test.YtamhfjlffacakaaQVaRef
import Derived.Deep.Cut
import Derived.Deep.Slices
import Derived.DataReads
namespace Go.Proofs.Ytamhfjlffacakaa.So
open Va St Pr Jo Go.Sort
def fl (w : List UInt8) : Va → List Va → Va × Int
 | v, [] => (v, 0)
 | v, x :: t => if (fo w v x).2 = 0 then fl w (fo w v x).1 t else (vz0, (fo w v x).2)
def fg (w : List UInt8) : List Va → Va × Int
 | [] => (vz0, 0)
 | v :: t => fl w v t
def vk (k : List UInt8) (l : List Pr) : List Va := (ky k l).map (·.2)
structure FoldY (w : List UInt8) (l m : List Pr) : Prop where
 od : Od m
 ok : ∀ k, vk k l ≠ [] → (fg w (vk k l)).2 = 0
 ky : ∀ k, ky k m = if vk k l = [] then [] else [(k, (fg w (vk k l)).1)]
def FoldN (w : List UInt8) (l : List Pr) (e : Int) : Prop := e ≠ 0 ∧ ∃ k, vk k l ≠ [] ∧ (fg w (vk k l)).2 = e
theorem FoldY.uniq {w : List UInt8} {l l' m m' : List Pr} (h : FoldY w l m) (h' : FoldY w l' m') (he : ∀ k, (vk k l = [] ↔ vk k l' = []) ∧ (vk k l ≠ [] → (fg w (vk k l)).1 = (fg w (vk k l')).1)) : m = m' := by
 refine od_uniq m m' h.od h'.od fun k => ?_
 rw [h.ky, h'.ky]
 by_cases e : vk k l = []
 · rw [if_pos e, if_pos ((he k).1.1 e)]
 · rw [if_neg e, if_neg (fun h => e ((he k).1.2 h)), (he k).2 e]
theorem vk_append (k : List UInt8) (a b : List Pr) : vk k (a ++ b) = vk k a ++ vk k b := by unfold vk; rw [ky_append, List.map_append]
theorem vk_sr (k : List UInt8) (l : List Pr) : vk k (sr l) = vk k l := by unfold vk; rw [sr_ky]
end Go.Proofs.Ytamhfjlffacakaa.So
namespace Go.Proofs.Ytamhfjlffacakaa.St
open Go.Proofs Go.RowKit Go.Shelf Go.Lib Go.Sort
section
variable {P : Program} {α : Type} [Inhabited α]
theorem insertion (L : StL P) (k : Nat) (aE : ∀ w, (isAgg 35).run P w = .ok true w) (zE : ∀ w, (Go.sizeOf 35).run P w = .ok k w) (enc : α → List Value) (cf : α → α → Int) (g : Nat) (cb : Array Value) (blk off cap : Nat) (d0 : Array α) (w0 : World) (hO : SWO (ltOf cf))
 (eg : ∀ args w, (callFunc g args).run P w = .ok (.enter g args) w) (hcmp : CmpLays P g cb enc k cf blk off d0.size w0) (R : RowK enc k w0 blk off d0) (a b : Nat) (d : Array α) (w : World)
 (hs : d0.size = d.size) (S : SWK enc k w0 blk off d w) (hab : a ≤ b) (hb : b ≤ d.size) (hsz : d.size < 4611686018427387904) :
 Calls P 86 #[.slice (some ⟨blk, off, none⟩) d.size cap, .int .i64 a, .int .i64 b, .func (.func g) #[] cb] w fun e w' => e = .returned (.tuple #[]) ∧ ∃ d', Srt (ltOf cf) a b d d' ∧ SWK enc k w0 blk off d' w' := by
 have hI := srt_ins hO d a b hab hb
 have hC : CmpLays P g cb enc k cf blk off d.size w := fun m os dk hdk x y => by
  obtain ⟨n0, os0, rfl⟩ := S
  rw [sortWorldK_on enc k w0 blk off n0 m d dk os0 os R.hblk hdk]
  exact hcmp _ _ dk (by omega) x y
 refine (AnyQ.insertionSortCmpFunc L.ins k aE zE enc R.hk R.h1 cf g cb blk off cap a b d w eg hC (S.holds R.hblk R.hH hs.symm) (S.lt R.hblk) hab hb hsz).mono ?_
 rintro e w' ⟨rfl, n, os, rfl⟩
 exact ⟨rfl, _, hI, S.on R.hblk n _ os hI.size⟩
set_option maxHeartbeats 8000000 in
set_option maxRecDepth 1000000 in
theorem stable (L : StL P) (k : Nat) (aE : ∀ w, (isAgg 35).run P w = .ok true w) (zE : ∀ w, (Go.sizeOf 35).run P w = .ok k w) (enc : α → List Value) (cf : α → α → Int) (g : Nat) (cb : Array Value) (blk off cap : Nat) (d0 : Array α) (w0 : World) (hO : SWO (ltOf cf))
 (eg : ∀ args w, (callFunc g args).run P w = .ok (.enter g args) w) (hcmp : CmpLays P g cb enc k cf blk off d0.size w0) (R : RowK enc k w0 blk off d0) (d : Array α) (w : World)
 (hs : d0.size = d.size) (S : SWK enc k w0 blk off d w) (hsz : d.size < 4611686018427387904) :
 Calls P 75 #[.slice (some ⟨blk, off, none⟩) d.size cap, .int .i64 d.size, .func (.func g) #[] cb] w fun e w' => e = .returned (.tuple #[]) ∧ ∃ d', Srt (ltOf cf) 0 d.size d d' ∧ SWK enc k w0 blk off d' w' := by
 have mixed := L.mixed
 have t0 := L.t0
 have a0 := L.a0
 have z0 := L.z0
 have v0 := L.v0
 have t3 := L.t3
 have a3 := L.a3
 have z3 := L.z3
 have v3 := L.v3
 have t4 := L.t4
 have a4 := L.a4
 have z4 := L.z4
 have v4 := L.v4
 have t22 := L.t22
 have a22 := L.a22
 have z22 := L.z22
 have v22 := L.v22
 have t25 := L.t25
 have a25 := L.a25
 have z25 := L.z25
 have v25 := L.v25
 have tu := L.tu
 have au := L.au
 have zu := L.zu
 have vu := L.vu
 have eI : ∀ args w, (callFunc 86 args).run P w = .ok (.enter 86 args) w := enters_of L.fI (by kernel_rfl) rfl
 have eM : ∀ args w, (callFunc 87 args).run P w = .ok (.enter 87 args) w := enters_of L.fM (by kernel_rfl) rfl
 have S0 : Aside (SWK enc k w0 blk off d w) := S
 have HC : Aside _ := hcmp
 clear S hcmp
 obtain ⟨n, hn⟩ : ∃ n, n = d.size := ⟨_, rfl⟩
 have n1 : n ≤ d.size := by omega
 have n2 : d.size ≤ n := by omega
 go_enter L.fT, Try.ntmps75
 go_wp2_with fail
 go_loopg [7, 8] d.size (fun kx s7 s8 wr => ∃ (a b : Nat) (dk : Array α), s7 = .int .i64 a ∧ s8 = .int .i64 b ∧ b ≤ a + 20 ∧ a + 20 ≤ b ∧ a ≤ d.size ∧ d.size - a ≤ kx ∧ dk.size = d.size ∧ Aside (Done (ltOf cf) 20 dk a) ∧ Aside (Pm (ltOf cf) d dk) ∧ Aside (SWK enc k w0 blk off dk wr))
 case atStart => exact ⟨0, 20, d, rfl, rfl, by omega, by omega, Nat.zero_le _, Nat.le_refl _, rfl, .zero, Pm.refl d, S0⟩
 case round =>
  clear S0
  obtain ⟨a, b, dk, rfl, rfl, b1, b2, ha, hkx, hds, HD, HP, S1⟩ := hrel
  by_cases hlt : b ≤ d.size
  · have hltz : (b : Int) ≤ (d.size : Int) := by omega
    have hin := insertion L k aE zE enc cf g cb blk off cap d0 w0 hO eg HC.out R a b dk wr (by omega) S1.out (by omega) (by omega) (by omega)
    rw [hds] at hin
    go_wp2_with fail
    refine hin.mono ?_
    rintro _ w1 ⟨rfl, d1, hI, S2⟩
    go_wp2_with fail
    go_roundg (d.size - b)
    case measure => omega
    case rel => exact ⟨b, b + 20, d1, rfl, by go_num, by omega, by omega, hlt, Nat.le_refl _, hI.size.trans hds, (show Done _ _ _ _ from by
     have e : b = a + 20 := by omega
     have := hI.ord
     rw [e] at this ⊢
     exact .run (HD.out.same fun i hi => hI.out (Or.inl hi)) this), HP.out.next hI hlt, S2⟩
  · have hltz : ¬ (b : Int) ≤ (d.size : Int) := by omega
    have hin := insertion L k aE zE enc cf g cb blk off cap d0 w0 hO eg HC.out R a d.size dk wr (by omega) S1.out ha (by omega) (by omega)
    rw [hds] at hin
    go_wp2_with fail
    refine hin.mono ?_
    rintro _ w1 ⟨rfl, d1, hI, S2⟩
    have H0 : Aside (Runs (ltOf cf) 20 d.size d1 0) := (HD.out.same fun i hi => hI.out (Or.inl hi)).all (Runs.last hI.ord (by omega)) ha
    have P0 : Aside (Pm (ltOf cf) d d1) := HP.out.next hI (Nat.le_refl _)
    have z0' : d1.size = d.size := hI.size.trans hds
    have S3 : Aside (SWK enc k w0 blk off d1 w1) := S2
    clear HD HP S1 hI hin hds S2 hlt hltz hkx b1 b2
    go_wp2_with fail
    go_loopg [6] (d.size + d.size) (fun kx s6 wr => ∃ (bs : Nat) (dk : Array α), s6 = .int .i64 bs ∧ 20 ≤ bs ∧ bs ≤ d.size + d.size + 20 ∧ d.size + d.size - bs ≤ kx ∧ dk.size = d.size ∧ Aside (Runs (ltOf cf) bs d.size dk 0) ∧ Aside (Pm (ltOf cf) d dk) ∧ Aside (SWK enc k w0 blk off dk wr))
    case atStart => exact ⟨20, d1, rfl, Nat.le_refl _, by omega, by omega, z0', H0, P0, S3⟩
    case round =>
     clear S3 H0 P0 z0'
     obtain ⟨bs, dk, rfl, l1, l2, hkx, hds, HR, HP, S1⟩ := hrel
     by_cases hlt : bs < d.size
     · have hltz : (bs : Int) < (d.size : Int) := by omega
       go_wp2_with fail
       go_loopg [7, 8] d.size (fun kx s7 s8 wr => ∃ (a b : Nat) (dk : Array α), s7 = .int .i64 a ∧ s8 = .int .i64 b ∧ b ≤ a + bs + bs ∧ a + bs + bs ≤ b ∧ a ≤ d.size ∧ d.size - a ≤ kx ∧ dk.size = d.size ∧ Aside (Done (ltOf cf) (bs + bs) dk a) ∧ Aside (Runs (ltOf cf) bs d.size dk a) ∧ Aside (Pm (ltOf cf) d dk) ∧ Aside (SWK enc k w0 blk off dk wr))
       case atStart => exact ⟨0, bs + bs, dk, rfl, by go_num, by omega, by omega, Nat.zero_le _, Nat.le_refl _, hds, .zero, HR, HP, S1⟩
       case round =>
        clear HR HP S1 hds
        obtain ⟨a, b, dk, rfl, rfl, b1, b2, ha, hkx2, hds, HD, HR, HP, S1⟩ := hrel
        by_cases hle : b ≤ d.size
        · have hlez : (b : Int) ≤ (d.size : Int) := by omega
          have o1 := HR.out.open (show a < d.size by omega)
          have o2 := o1.2.open (show a + bs < d.size by omega)
          have hme := symMerge L k aE zE enc cf g cb blk off cap d0 w0 hO eg HC.out R (b - a + 1) a (a + bs) b dk wr (by omega) (by omega) S1.out (by omega) (by omega) (by omega) (by omega)
           (by have := o1.1; rwa [show min (a + bs) d.size = a + bs by omega] at this) (by have := o2.1; rwa [show min (a + bs + bs) d.size = b by omega] at this)
          have T : Aside (Runs (ltOf cf) bs d.size dk (a + bs + bs)) := o2.2
          clear o1 o2
          rw [hds, show ((a + bs : Nat) : Int) = (a : Int) + (bs : Int) by omega] at hme
          go_wp2_with fail
          refine hme.mono ?_
          rintro _ w2 ⟨rfl, d2, hI, S2⟩
          go_wp2_with fail
          go_roundg (d.size - b)
          case measure => omega
          case rel => exact ⟨b, b + bs + bs, d2, rfl, by go_num, by omega, by omega, hle, Nat.le_refl _, hI.size.trans hds, (show Done _ _ _ _ from by
           have e : b = a + (bs + bs) := by omega
           have := hI.ord
           rw [e] at this ⊢
           exact .run (HD.out.same fun i hi => hI.out (Or.inl hi)) this), (show Runs _ _ _ _ _ from by
           have e : b = a + bs + bs := by omega
           rw [e]; exact T.out.same fun i hi => hI.out (Or.inr (by omega))), HP.out.next hI hle, S2⟩
        · have hlez : ¬ (b : Int) ≤ (d.size : Int) := by omega
          by_cases hm : a + bs < d.size
          · have hmz : (a : Int) + (bs : Int) < (d.size : Int) := by omega
            have o1 := HR.out.open (show a < d.size by omega)
            have o2 := o1.2.open (show a + bs < d.size by omega)
            have hme := symMerge L k aE zE enc cf g cb blk off cap d0 w0 hO eg HC.out R (d.size - a + 1) a (a + bs) d.size dk wr (by omega) (by omega) S1.out (by omega) (by omega) (by omega) (by omega)
             (by have := o1.1; rwa [show min (a + bs) d.size = a + bs by omega] at this) (by have := o2.1; rwa [show min (a + bs + bs) d.size = d.size by omega] at this)
            clear o1 o2
            rw [hds, show ((a + bs : Nat) : Int) = (a : Int) + (bs : Int) by omega] at hme
            go_wp2_with fail
            refine hme.mono ?_
            rintro _ w2 ⟨rfl, d2, hI, S2⟩
            go_wp2_with fail
            go_roundg (d.size + d.size - (bs + bs))
            case measure => omega
            case rel => exact ⟨bs + bs, d2, by go_num, by omega, by omega, Nat.le_refl _, hI.size.trans hds, (HD.out.same fun i hi => hI.out (Or.inl hi)).all (Runs.last hI.ord (by omega)) ha, HP.out.next hI (Nat.le_refl _), S2⟩
          · have hmz : ¬ (a : Int) + (bs : Int) < (d.size : Int) := by omega
            go_wp2_with fail
            go_roundg (d.size + d.size - (bs + bs))
            case measure => omega
            case rel => exact ⟨bs + bs, dk, by go_num, by omega, by omega, Nat.le_refl _, hds, HD.out.all (by
             by_cases e : a < d.size
             · have o1 := (HR.out.open e).1
               rw [show min (a + bs) d.size = d.size by omega] at o1
               exact Runs.last o1 (by omega)
             · exact .fin (by omega)) ha, HP, S1⟩
     · have hltz : ¬ (bs : Int) < (d.size : Int) := by omega
       go_wp2_with fail
       go_end0
       exact ⟨rfl, dk, HP.out.done (by
        by_cases e : 0 < d.size
        · have o1 := (HR.out.open e).1
          rwa [show min (0 + bs) d.size = d.size by omega] at o1
        · intro i j _ _ h; omega), S1.out⟩
set_option maxHeartbeats 2000000 in
set_option maxRecDepth 100000 in
theorem sortStable (L : StL P) (k : Nat) (aE : ∀ w, (isAgg 35).run P w = .ok true w) (zE : ∀ w, (Go.sizeOf 35).run P w = .ok k w) (enc : α → List Value) (cf : α → α → Int) (g : Nat) (cb : Array Value) (blk off cap : Nat) (d0 : Array α) (w0 : World) (hO : SWO (ltOf cf))
 (eg : ∀ args w, (callFunc g args).run P w = .ok (.enter g args) w) (hcmp : CmpLays P g cb enc k cf blk off d0.size w0) (R : RowK enc k w0 blk off d0) (hsz : d0.size < 4611686018427387904) :
 Calls P 56 #[.slice (some ⟨blk, off, none⟩) d0.size cap, .func (.func g) #[] cb] w0 fun e w' => e = .returned (.tuple #[]) ∧ ∃ d', Srt (ltOf cf) 0 d0.size d0 d' ∧ SWK enc k w0 blk off d' w' := by
 have mixed := L.mixed
 have t0 := L.t0
 have a0 := L.a0
 have z0 := L.z0
 have v0 := L.v0
 have t3 := L.t3
 have a3 := L.a3
 have z3 := L.z3
 have v3 := L.v3
 have t4 := L.t4
 have a4 := L.a4
 have z4 := L.z4
 have v4 := L.v4
 have t22 := L.t22
 have a22 := L.a22
 have z22 := L.z22
 have v22 := L.v22
 have t25 := L.t25
 have a25 := L.a25
 have z25 := L.z25
 have v25 := L.v25
 have tu := L.tu
 have au := L.au
 have zu := L.zu
 have vu := L.vu
 have eT : ∀ args w, (callFunc 75 args).run P w = .ok (.enter 75 args) w := enters_of L.fT (by kernel_rfl) rfl
 have hst := stable L k aE zE enc cf g cb blk off cap d0 w0 hO eg hcmp R d0 w0 rfl (SWK.start R.hH) hsz
 clear hcmp
 go_enter L.fO, Try.ntmps56
 go_wp2_with fail
 refine hst.mono ?_
 rintro _ w1 ⟨rfl, d1, hI, S2⟩
 go_wp2_with fail
 go_end0
 exact ⟨rfl, d1, hI, S2⟩
end
end Go.Proofs.Ytamhfjlffacakaa.St
namespace Go.Proofs.Ytamhfjlffacakaa.Pr
open Go.ChangeShapes Go.WideShapes Go.ChangeAt Go.RowKit Go.Sort Go.Proofs Ov Va St
def pcl (p : Pr) : List Value := [.string (tx p.1), .int .i64 p.2.k, .int .i64 p.2.n, .string (tx p.2.s), .int .i64 p.2.x, .int .i64 p.2.y]
def pcells (l : List Pr) : List Value := l.flatMap pcl
theorem pcl_len (p : Pr) : (pcl p).length = 6 := rfl
theorem pcl_one (p : Pr) : ∀ u ∈ pcl p, u.oneCell' = true := by
 intro u hu
 unfold pcl at hu
 simp only [List.mem_cons, List.not_mem_nil, or_false] at hu
 rcases hu with rfl | rfl | rfl | rfl | rfl | rfl <;> rfl
theorem pcells_snoc (l : List Pr) (p : Pr) : pcells (l ++ [p]) = pcells l ++ pcl p := by
 unfold pcells; rw [List.flatMap_append]; simp
theorem pcells_append (l m : List Pr) : pcells (l ++ m) = pcells l ++ pcells m := by
 unfold pcells; rw [List.flatMap_append]
theorem pcells_len (l : List Pr) : (pcells l).length = l.length * 6 := by
 induction l with
 | nil => rfl
 | cons p t ih => show (pcl p ++ pcells t).length = _; rw [List.length_append, ih, pcl_len, List.length_cons]; omega
theorem pcells_one (l : List Pr) : ∀ u ∈ pcells l, u.oneCell' = true := by
 intro u hu
 obtain ⟨p, _, h⟩ := List.mem_flatMap.1 hu
 exact pcl_one p u h
def pd (l : List Pr) (i : Nat) : Pr := (l[i]?).getD pz
theorem arr_at (l : List Pr) (i : Nat) : l.toArray[i]! = pd l i := by
 show l.toArray[i]! = (l[i]?).getD pz
 rw [getElem!_def]
 simp only [List.getElem?_toArray]
 cases l[i]? <;> rfl
theorem pd_at {l : List Pr} {i : Nat} (h : i < l.length) : pd l i = l[i] := by unfold pd; simp [h]
theorem pd_mem {l : List Pr} {i : Nat} (h : i < l.length) : pd l i ∈ l := by rw [pd_at h]; exact List.getElem_mem h
theorem pcells_at (l : List Pr) (i j : Nat) (hi : i < l.length) (hj : j < 6) : (pcells l)[i * 6 + j]? = (pcl (pd l i))[j]? := by
 induction l generalizing i with
 | nil => simp at hi
 | cons n t ih =>
   show (pcl n ++ pcells t)[i * 6 + j]? = _
   cases i with
   | zero =>
     rw [Nat.zero_mul, Nat.zero_add, List.getElem?_append_left (by show j < 6; exact hj)]; rfl
   | succ i =>
     rw [List.getElem?_append_right (by show 6 ≤ _; omega)]
     show (pcells t)[(i + 1) * 6 + j - 6]? = (pcl (pd t i))[j]?
     rw [show (i + 1) * 6 + j - 6 = i * 6 + j by omega]
     exact ih i (by simpa using hi)
def Prs (w : World) (p : Option Addr) (l : List Pr) : Prop :=
 0 < l.length → ∃ B O, p = some ⟨B, O, none⟩ ∧ ∀ i j v, i < l.length → (pcl (pd l i))[j]? = some v → w.cell? ⟨B, O + i * 6 + j, none⟩ = some v
def OwnL (B : Nat) (w : World) (p : Option Addr) (l : List Pr) : Prop :=
 (l = [] ∧ p = none) ∨ ∃ g, p = some ⟨g, 0, none⟩ ∧ B ≤ g ∧ g < w.heap.size ∧ HoldsK pcl 6 w g 0 l.toArray
section
variable {w w' : World} {p : Option Addr} {l : List Pr} {B : Nat}
theorem Prs.nil (w : World) (p : Option Addr) : Prs w p [] := fun h => absurd h (Nat.lt_irrefl 0)
theorem Prs.next (h : Prs w p l) (k : Below w.heap.size w w') : Prs w' p l := fun hn => by
 obtain ⟨B, O, e, hc⟩ := h hn
 exact ⟨B, O, e, fun i j v hi hv => (k.cell (p := ⟨B, O + i * 6 + j, none⟩) (block_lt_of_cell (hc i j v hi hv))).trans (hc i j v hi hv)⟩
theorem Prs.cell {G O : Nat} (h : Prs w (some ⟨G, O, none⟩) l) {i : Nat} (hi : i < l.length) (j : Nat) (v : Value) (hv : (pcl (pd l i))[j]? = some v) : w.cell? ⟨G, O + i * 6 + j, none⟩ = some v := by
 obtain ⟨B', O', e, hc⟩ := h (by omega)
 simp only [Option.some.injEq, Addr.mk.injEq, and_true] at e
 obtain ⟨rfl, rfl⟩ := e
 exact hc i j v hi hv
theorem Prs.shape (h : Prs w p l) (hl : 0 < l.length) : ∃ G O, p = some ⟨G, O, none⟩ := by
 obtain ⟨G, O, e, _⟩ := h hl
 exact ⟨G, O, e⟩
theorem holds_cell {g : Nat} (h : HoldsK pcl 6 w g 0 l.toArray) {i j : Nat} {v : Value} (hi : i < l.length) (hv : (pcl (pd l i))[j]? = some v) : w.cell? ⟨g, i * 6 + j, none⟩ = some v ∧ w.frozen? ⟨g, i * 6 + j, none⟩ = false := by
 obtain ⟨hj, e⟩ := List.getElem?_eq_some_iff.1 hv
 have hj' : j < 6 := hj
 have hc := h.cell (i := i) (c := j) (by simpa using hi) hj'
 rw [arr_at, Nat.zero_add, getElem!_pos (pcl (pd l i)) j hj, e] at hc
 exact hc
theorem OwnL.prs (h : OwnL B w p l) : Prs w p l := fun hl => by
 rcases h with ⟨rfl, _⟩ | ⟨g, rfl, _, _, hh⟩
 · exact absurd hl (Nat.lt_irrefl 0)
 · exact ⟨g, 0, rfl, fun i j v hi hv => by rw [Nat.zero_add]; exact (holds_cell hh hi hv).1⟩
theorem holds_next {g : Nat} {d : Array Pr} (h : HoldsK pcl 6 w g 0 d) (hg : g < w.heap.size) (k : Below w.heap.size w w') : HoldsK pcl 6 w' g 0 d := fun j hj =>
 ⟨(k.cell (p := ⟨g, 0 + j, none⟩) hg).trans (h j hj).1, (k.frozen (p := ⟨g, 0 + j, none⟩) hg).trans (h j hj).2⟩
theorem OwnL.next (h : OwnL B w p l) (k : Below w.heap.size w w') : OwnL B w' p l := by
 rcases h with h | ⟨g, e, hB, hg, hh⟩
 · exact .inl h
 · exact .inr ⟨g, e, hB, Nat.lt_of_lt_of_le hg k.size, holds_next hh hg k⟩
theorem OwnL.lower (h : OwnL B w p l) {C : Nat} (hc : C ≤ B) : OwnL C w p l := by
 rcases h with h | ⟨g, e, hB, hg, hh⟩
 · exact .inl h
 · exact .inr ⟨g, e, Nat.le_trans hc hB, hg, hh⟩
theorem holds_of_own {n : Nat} {g c : Nat} (h : w.ownsRow B 35 6 (.slice (some ⟨g, 0, none⟩) n c) n (pcells l)) (hn : n = l.length) : B ≤ g ∧ g < w.heap.size ∧ HoldsK pcl 6 w g 0 l.toArray := by
 subst hn
 have hg : B ≤ g ∧ g < w.heap.size := h.lt g rfl
 refine ⟨hg.1, hg.2, fun t ht => ?_⟩
 rw [size_flatK] at ht
 have ht' : t < l.length * 6 := by simpa using ht
 have hi : t / 6 < l.length := by omega
 have hj : t % 6 < 6 := Nat.mod_lt _ (by omega)
 have e : t = t / 6 * 6 + t % 6 := by omega
 rw [get_flatK _ _ _ _ ht, arr_at, Nat.zero_add]
 refine ⟨?_, ?_⟩
 · rw [h.cellAt t (by omega)]
   conv => lhs; rw [e]
   rw [pcells_at l _ _ hi hj, getElem!_pos (pcl (pd l (t / 6))) (t % 6) hj]
   exact List.getElem?_eq_getElem hj
 · rcases h.2 with ⟨e0, _⟩ | ⟨g', cap, cur, e0, _, hh, _⟩
   · cases e0
   · injection e0 with e1 _ _
     injection e1 with e1
     injection e1 with e1
     subst e1
     simp [World.frozen?, hh]
theorem below_sort {C : Nat} {w0 : World} {g n : Nat} {d : Array Pr} {os : Array Obj} (h : Below C w0 w) (hg : C ≤ g) (hC : C ≤ w.heap.size) : Below C w0 (sortWorldK pcl 6 w g 0 n d os) := by
 have h1 : Below C w0 (putRowK pcl 6 (Sort.ahead w n) g 0 d) := Lib.below_putRow (enc := id) h hg
 refine ⟨h1.os, h1.tape, h1.output, ?_, fun k hk => ?_⟩
 · unfold sortWorldK; rw [size_grow]; exact Nat.le_trans h1.size (Nat.le_add_right _ _)
 · unfold sortWorldK
   rw [heap_grow_old _ _ (by rw [size_putRowK]; exact Nat.lt_of_lt_of_le hk hC)]
   exact h1.block k hk
end
set_option maxHeartbeats 1000000 in
theorem byKey_any (a b : Pr) (w : World) : Calls Try.prog 42 #[.agg (pcl a).toArray, .agg (pcl b).toArray] w fun e w' => e = .returned (.int .i64 (ck a b)) ∧ ∃ q os, w' = grow (w.drewN q) os := by
 have hc := fun w => cmpS_any (tx a.1) (tx b.1) w
 rw [tx_list, tx_list] at hc
 unfold pcl
 generalize tx a.1 = ka at *
 generalize tx b.1 = kb at *
 generalize hk : cS a.1 b.1 = r at *
 have hr : ck a b = r := hk
 rw [hr]
 clear hr hk
 go_enter Try.func42, Try.ntmps42
 go_wp2_with (fail)
 refine (hc _).mono ?_
 rintro e w1 ⟨rfl, rfl⟩
 go_wp2_with (fail)
 go_ret
 exact ⟨rfl, 0, #[_, _], by rw [alloc_eq_grow, alloc_eq_grow, grow_grow]; rfl⟩
theorem byKey_lays (blk off size : Nat) (w : World) : CmpLays Try.prog 42 #[] pcl 6 ck blk off size w := fun _ _ _ _ x y => byKey_any x y _
theorem ltOf_ck : ltOf ck = kl := funext fun a => funext fun b => ck_kl a b
theorem sort_own (l : List Pr) (g c : Nat) (w : World) (hg : g < w.heap.size) (h : HoldsK pcl 6 w g 0 l.toArray) (hl : l.length < 4611686018427387904) :
 Calls Try.prog 56 #[.slice (some ⟨g, 0, none⟩) l.length c, .func (.func 42) #[] #[]] w fun e w' => e = .returned (.tuple #[]) ∧ HoldsK pcl 6 w' g 0 (sr l).toArray ∧ g < w'.heap.size ∧
  ∀ (C : Nat) (w0 : World), Below C w0 w → C ≤ g → Below C w0 w' := by
 have R : RowK pcl 6 w g 0 l.toArray := ⟨pcl_len, pcl_one, h, hg⟩
 have hz : l.toArray.size = l.length := by simp
 have hs := sortStable stL 6 (fun w => by kernel_rfl) (fun w => by kernel_rfl) pcl ck 42 #[] g 0 c l.toArray w (by rw [ltOf_ck]; exact swo) (enters_of Try.func42 (by kernel_rfl) rfl) (byKey_lays g 0 _ w) R (by rw [hz]; exact hl)
 rw [hz] at hs
 refine hs.mono ?_
 rintro e w' ⟨rfl, d', hd, S⟩
 rw [ltOf_ck, ← hz] at hd
 have e1 : d' = (sr l).toArray := by rw [← sr_of_srt hd]
 subst e1
 refine ⟨rfl, S.holds hg h (by simp [sr_len]), S.lt hg, fun C w0 hb hC => ?_⟩
 obtain ⟨n, os, rfl⟩ := S
 exact below_sort hb hC (by omega)
end Go.Proofs.Ytamhfjlffacakaa.Pr
namespace Go.Proofs.Ytamhfjlffacakaa.Pr
open Go.ChangeShapes Go.WideShapes Go.ChangeAt Go.RowKit Go.Sort Go.Shelf Go.Proofs Ov Va St
theorem infoP : (Try.prog.info? 35).map (fun i => (i.zero, i.size, i.bytes)) = some (some (.agg (pcl pz).toArray), 6, 64) := by kernel_rfl
def growRen : Ren := ⟨fun | 4 => 74 | n => n, fun | 0 => 0 | 3 => 3 | 4 => 4 | 9 => 9 | 20 => 20 | 22 => 22 | 25 => 35 | n => n, fun n => n⟩
theorem growLays : Lays8.n4 Try.prog growRen :=
 { mixed := by kernel_rfl
   f4 := ⟨Try.f74.name, by kernel_rfl, by kernel_rfl⟩
   t0 := by kernel_rfl
   a0 := fun _ => by kernel_rfl
   z0 := fun _ => by kernel_rfl
   v0 := fun _ => by kernel_rfl
   t3 := by kernel_rfl
   a3 := fun _ => by kernel_rfl
   z3 := fun _ => by kernel_rfl
   v3 := fun _ => by kernel_rfl
   t4 := by kernel_rfl
   a4 := fun _ => by kernel_rfl
   z4 := fun _ => by kernel_rfl
   v4 := fun _ => by kernel_rfl
   t9 := by kernel_rfl
   a9 := fun _ => by kernel_rfl
   z9 := fun _ => by kernel_rfl
   v9 := fun _ => by kernel_rfl
   t20 := by kernel_rfl
   a20 := fun _ => by kernel_rfl
   z20 := fun _ => by kernel_rfl
   v20 := fun _ => by kernel_rfl
   t22 := by kernel_rfl
   a22 := fun _ => by kernel_rfl
   z22 := fun _ => by kernel_rfl
   v22 := fun _ => by kernel_rfl }
theorem grow_any (n : Nat) (w : World) (hn : n ≤ 1000000) : Calls Try.prog 74 #[.slice none 0 0, .int .i64 n] w fun e w' =>
 ∃ v, e = .returned v ∧ w'.ownsRow w.heap.size 35 6 v 0 [] ∧ Below w.heap.size w w' := by
 by_cases h0 : n = 0
 · subst h0
   exact (Any8.slices_Grow_room growLays none 0 0 0 w (by omega) (by omega) (by omega) (by omega)).mono fun _ w' ⟨he, hw⟩ => by
    subst hw
    exact ⟨_, he, ⟨rfl, .inl ⟨rfl, rfl⟩⟩, Below.refl _ _⟩
 · obtain ⟨i0, hi0, hi1, hi2, hi3⟩ := info_parts infoP
   refine (Any8.slices_Grow_grow growLays i0 _ hi0 hi1 (by rw [hi2]; decide) none 0 0 n [] w (by omega) (by omega) (by rw [hi3]; omega) (by omega) (by simp) (fun _ => rfl) (fun a h => by cases h)).mono ?_
   rintro e w' ⟨rfl, rfl⟩
   have hg := grownCap_ge w (0 + n) 0 35
   have hm := grownCap_le_maxLen w (0 + n) 0 35 (by unfold maxLen; omega)
   obtain ⟨G, hG⟩ : ∃ G, G = grownCap w (0 + n) 0 35 := ⟨_, rfl⟩
   have e25 : growRen.t 25 = 35 := rfl
   rw [e25, ← hG]
   rw [← hG] at hg hm
   obtain ⟨cs, hcs⟩ : ∃ cs, cs = ([] : List Value).toArray ++ Builtin.zeroCells (Value.agg (pcl pz).toArray).cells (0 + n - 0) ++ Builtin.zeroCells (Value.agg (pcl pz).toArray).cells (G - (0 + n)) := ⟨_, rfl⟩
   have hsz : cs.size = G * 6 := by
    rw [hcs]
    simp [Builtin.zeroCells, Value.cells, pcl]
    omega
   rw [← hcs]
   have h1 : (w.drew.alloc (.cells cs 35)).ownsRow w.heap.size 35 6 (.slice (some ⟨w.heap.size, 0, none⟩) 0 G) 0 [] :=
    ⟨rfl, .inr ⟨w.heap.size, G, cs, rfl, Nat.le_refl _, (by show (w.heap.push _)[w.heap.size]? = _; simp), Nat.zero_le _, hm, hsz, by simp⟩⟩
   have hB : Below w.heap.size w w.drew := below_drewN (Below.refl _ w) 1
   exact ⟨_, rfl, h1, hB.alloc (Nat.le_refl _) _⟩
abbrev Part := Option Addr × Nat × List Pr
instance : Inhabited Part := ⟨(none, 0, [])⟩
def pv (q : Part) : Value := .slice q.1 q.2.2.length q.2.1
def PIn (w : World) (q : Part) : Prop := Prs w q.1 q.2.2 ∧ (q.1 = none → q.2.2 = [] ∧ q.2.1 = 0)
theorem PIn.next {w w' : World} {q : Part} (h : PIn w q) (k : Below w.heap.size w w') : PIn w' q := ⟨h.1.next k, h.2⟩
def Lls (w : World) (A : Option Addr) (qs : List Part) : Prop :=
 ∃ B O, A = some ⟨B, O, none⟩ ∧ (∀ i, i < qs.length → w.cell? ⟨B, O + i, none⟩ = some (pv (qs[i]?.getD default))) ∧ ∀ i, i < qs.length → PIn w (qs[i]?.getD default)
def al (qs : List Part) (i : Nat) : List Pr := (qs.take i).flatMap (·.2.2)
theorem al_succ {qs : List Part} {i : Nat} (h : i < qs.length) : al qs (i + 1) = al qs i ++ (qs[i]?.getD default).2.2 := by
 unfold al
 rw [List.take_succ_eq_append_getElem h, List.flatMap_append]
 simp [h]
theorem al_le (qs : List Part) (i : Nat) : (al qs i).length ≤ (al qs qs.length).length := by
 unfold al
 rw [List.take_length]
 conv => rhs; rw [← List.take_append_drop i qs]
 rw [List.flatMap_append, List.length_append]; omega
theorem own_keep {w w' : World} {base size n : Nat} {e : TypeId} {v : Value} {xs : List Value} (h : w.ownsRow base e size v n xs) (k : Below w.heap.size w w') : w'.ownsRow base e size v n xs :=
 h.kept (row := none) ⟨k.os, k.tape, k.output, k.size, fun i hi _ => k.block i hi⟩ (by cases v.ownBlock <;> simp)
theorem slice_of {w : World} {base n : Nat} {e : TypeId} {v : Value} {xs : List Value} (h : w.ownsRow base e 6 v n xs) : ∃ A c, v = .slice A n c ∧ (A = none → n = 0 ∧ c = 0) := by
 rcases h.2 with ⟨rfl, rfl⟩ | ⟨g, cap, cur, rfl, _⟩
 · exact ⟨none, 0, rfl, fun _ => ⟨rfl, rfl⟩⟩
 · exact ⟨_, cap, rfl, fun h => by cases h⟩
set_option maxHeartbeats 2000000 in
set_option maxRecDepth 100000 in
theorem concat_any (A : Option Addr) (c : Nat) (qs : List Part) (w : World) (h : Lls w A qs) (hq : qs.length ≤ 1000) (hT : (al qs qs.length).length ≤ 1000000) :
 Calls Try.prog 55 #[.slice A qs.length c] w fun e w' => ∃ v, e = .returned v ∧ w'.ownsRow w.heap.size 35 6 v (al qs qs.length).length (pcells (al qs qs.length)) ∧ Below w.heap.size w w' := by
 obtain ⟨B, O, rfl, hc, hP⟩ := h
 have HC := Lib.hid hc; have HP := Lib.hid hP
 have HT := Lib.hid hT
 clear hc hP
 go_enter Try.func55, Try.ntmps55
 go_wp2_with (fail)
 go_loopg [3, 11] qs.length (fun kx s3 s11 wr => ∃ (i x : Nat), i ≤ qs.length ∧ qs.length - i ≤ kx ∧ s3 = .int .i64 x ∧ s11 = .int .i64 i ∧ Hid (x = (al qs i).length) ∧ w = wr)
 case atStart => exact ⟨0, 0, Nat.zero_le _, by omega, rfl, rfl, Lib.hid rfl, rfl⟩
 case round =>
  obtain ⟨i, x, hi, hkx, rfl, rfl, HX, rfl⟩ := hrel
  by_cases hlt : i < qs.length
  · have hltz : (i : Int) < (qs.length : Int) := by omega
    have ci := HC.out i hlt
    have HS := Lib.hid (al_succ hlt)
    have hle := al_le qs (i + 1)
    have hx : x + (qs[i]?.getD default).2.2.length ≤ 1000000 := by
     have := congrArg List.length HS.out
     rw [List.length_append, ← HX.out] at this
     have := HT.out
     omega
    clear hle
    unfold pv at ci
    obtain ⟨y, hy⟩ : ∃ y, y = (qs[i]?.getD default).2.2.length := ⟨_, rfl⟩
    have HY := Lib.hid hy
    rw [← hy] at ci hx
    clear hy
    generalize (qs[i]?.getD default).1 = Ai at ci
    generalize (qs[i]?.getD default).2.1 = gi at ci
    have hneg : ¬ ((x : Int) + (y : Int) < 0) := by omega
    go_wp2_with (fail)
    go_roundg (qs.length - (i + 1))
    case measure => omega
    case rel => exact ⟨i + 1, x + y, by omega, Nat.le_refl _, by go_num, by go_num, Lib.hid (by rw [HS.out, List.length_append, ← HX.out, HY.out]), rfl⟩
  · have hltz : ¬ (i : Int) < (qs.length : Int) := by omega
    obtain rfl : i = qs.length := by omega
    have hx : x ≤ 1000000 := by have := HX.out; have := HT.out; omega
    clear HX
    go_wp2_with (fail)
    refine (grow_any x w hx).mono ?_
    rintro e w1 ⟨v0, rfl, hown, hb⟩
    have HO := Lib.hid hown; have HB := Lib.hid hb
    clear hown hb
    obtain ⟨i0, hi0, hi1, hi2, hi3⟩ := info_parts infoP
    have HI0 := Lib.hid hi0; have HI1 := Lib.hid hi1; have HI2 := Lib.hid hi2; have HI3 := Lib.hid hi3
    clear hi0 hi1 hi2 hi3
    obtain ⟨A0, c0, rfl, _⟩ := slice_of HO.out
    go_wp2_with (fail)
    go_loopg [6, 27] qs.length (fun kx s6 s27 w2 => ∃ (j : Nat), j ≤ qs.length ∧ qs.length - j ≤ kx ∧ s27 = .int .i64 j ∧ Hid (w2.ownsRow w.heap.size 35 6 s6 (al qs j).length (pcells (al qs j))) ∧ Hid (Below w.heap.size w w2))
    case atStart => exact ⟨0, Nat.zero_le _, by omega, rfl, HO, HB⟩
    case round =>
     clear HO HB
     obtain ⟨j, hj, hkj, rfl, HO, HB⟩ := hrel
     by_cases hlj : j < qs.length
     · have hljz : (j : Int) < (qs.length : Int) := by omega
       have cj0 := HC.out j hlj
       have cj := (HB.out.cell (p := ⟨B, O + j, none⟩) (block_lt_of_cell cj0)).trans cj0
       clear cj0
       have hPj := (HP.out j hlj).next HB.out
       have HS := Lib.hid (al_succ hlj)
       have hle := al_le qs (j + 1)
       rw [HS.out, List.length_append] at hle
       have h9 := Nat.le_trans hle HT.out
       clear hle
       unfold pv at cj
       obtain ⟨A1, c1, hsl, _⟩ := slice_of HO.out
       subst hsl
       generalize hqj : qs[j]?.getD default = q at cj hPj HS h9
       obtain ⟨Aj, gj, lj⟩ := q
       have HQ := Lib.hid hqj; clear hqj
       dsimp only at cj hPj h9
       cases Aj with
       | none =>
         obtain ⟨hn1, hn2⟩ := hPj.2 rfl
         dsimp only at hn1 hn2
         subst hn1; subst hn2
         clear hPj
         go_wp2_with (at_builtin; refine wpList_append_own_none rfl _ _ 22 rfl w.heap.size 35 i0 6 Try.underlying22 HI0.out _ _ _ rfl HO.out rfl ?_)
         go_roundg (qs.length - (j + 1))
         case measure => omega
         case rel => exact ⟨j + 1, by omega, Nat.le_refl _, by go_num, Lib.hid (by rw [HS.out, List.append_nil]; exact HO.out), HB⟩
       | some ad =>
         have HPJ := Lib.hid hPj.1
         clear hPj
         go_wp2_with (at_builtin; refine wpList_append_own _ rfl _ _ 22 rfl w.heap.size 35 i0 (.agg (pcl pz).toArray) 6 64 Try.underlying22 HI0.out HI1.out HI2.out HI3.out rfl (by decide) _ _ _ rfl HO.out ad lj.length gj (pcells lj) rfl (pcells_len lj) ?c1 (pcells_one lj) ?c3 ?c4 ?c5 ?_)
         case c1 =>
          intro t u ht
          have hlt' : t < lj.length * 6 := by have := (List.getElem?_eq_some_iff.1 ht).1; rwa [pcells_len] at this
          obtain ⟨G, O', e, hcc⟩ := HPJ.out (by omega)
          obtain rfl := Option.some.inj e
          have e1 : t = t / 6 * 6 + t % 6 := by omega
          rw [e1, pcells_at lj _ _ (by omega) (Nat.mod_lt _ (by omega))] at ht
          have := hcc (t / 6) (t % 6) u (by omega) ht
          rw [Addr.add_lit, e1, ← Nat.add_assoc]
          exact this
         case c3 => unfold maxLen; omega
         case c4 => omega
         case c5 => exact HB.out.size
         intro v' w3 hown' hgrow _
         have HN := Lib.hid hown'
         have HB3 := Lib.hid (HB.out.grown hgrow HB.out.size (fun g e => (HO.out.lt g e).1))
         clear hown' hgrow
         go_wp2_with (fail)
         go_roundg (qs.length - (j + 1))
         case measure => omega
         case rel => exact ⟨j + 1, by omega, Nat.le_refl _, by go_num, Lib.hid (by rw [HS.out, List.length_append, pcells_append]; exact HN.out), HB3⟩
     · have hljz : ¬ (j : Int) < (qs.length : Int) := by omega
       obtain rfl : j = qs.length := by omega
       obtain ⟨A1, c1, hsl, _⟩ := slice_of HO.out
       subst hsl
       go_wp2_with (fail)
       go_ret
       exact ⟨_, rfl, HO.out, HB.out⟩
end Go.Proofs.Ytamhfjlffacakaa.Pr
namespace Go.Proofs.Ytamhfjlffacakaa.So
open Go.ChangeShapes Go.WideShapes Go.ChangeAt Go.RowKit Go.Sort Go.Proofs Ov Va St Pr
def ic (sl : Nat → Value) (r : Nat) : List Value := [.int .i64 r, sl r]
def ics (sl : Nat → Value) (f : Nat → Nat) (n : Nat) : List Value := (List.range n).flatMap fun i => ic sl (f i)
section
variable {sl : Nat → Value} {f g : Nat → Nat} {n : Nat}
theorem ics_succ (sl : Nat → Value) (f : Nat → Nat) (n : Nat) : ics sl f (n + 1) = ics sl f n ++ ic sl (f n) := by
 unfold ics; rw [List.range_succ, List.flatMap_append]; simp
theorem ics_len (sl : Nat → Value) (f : Nat → Nat) (n : Nat) : (ics sl f n).length = n * 2 := by
 induction n with
 | zero => rfl
 | succ n ih => rw [ics_succ, List.length_append, ih]; show n * 2 + 2 = _; omega
theorem ics_congr (h : ∀ i, i < n → ic sl (f i) = ic sl (g i)) : ics sl f n = ics sl g n := by
 induction n with
 | zero => rfl
 | succ n ih => rw [ics_succ, ics_succ, ih (fun i hi => h i (by omega)), h n (by omega)]
theorem ics_sl {sl' : Nat → Value} (h : ∀ i, i < n → sl (f i) = sl' (f i)) : ics sl f n = ics sl' f n := by
 induction n with
 | zero => rfl
 | succ n ih => rw [ics_succ, ics_succ, ih (fun i hi => h i (by omega))]; unfold ic; rw [h n (by omega)]
theorem ics_at (sl : Nat → Value) (f : Nat → Nat) (n i j : Nat) (hi : i < n) (hj : j < 2) : (ics sl f n)[i * 2 + j]? = (ic sl (f i))[j]? := by
 induction n with
 | zero => omega
 | succ n ih =>
   rw [ics_succ]
   by_cases e : i < n
   · rw [List.getElem?_append_left (by rw [ics_len]; omega)]; exact ih e
   · obtain rfl : i = n := by omega
     rw [List.getElem?_append_right (by rw [ics_len]; omega), ics_len]
     congr 1; omega
theorem ics_more (sl : Nat → Value) (f : Nat → Nat) (n x : Nat) : ics sl f n ++ ic sl x = ics sl (fun k => if k = n then x else f k) (n + 1) := by
 rw [ics_succ, if_pos rfl]
 congr 1
 exact ics_congr fun i hi => by rw [if_neg (by omega)]
theorem ics_take (sl : Nat → Value) (f : Nat → Nat) (n m : Nat) (h : m ≤ n) : (ics sl f n).take (m * 2) = ics sl f m := by
 obtain ⟨k, rfl⟩ : ∃ k, n = m + k := ⟨n - m, by omega⟩
 clear h
 induction k with
 | zero => rw [List.take_of_length_le (by rw [ics_len]; omega)]; rfl
 | succ k ih => rw [← Nat.add_assoc, ics_succ, List.take_append_of_le_length (by rw [ics_len]; omega), ih]
theorem ics_set (sl : Nat → Value) (f : Nat → Nat) (n i r : Nat) (hi : i < n) : ((ics sl f n).set (i * 2) (.int .i64 r)).set (i * 2 + 1) (sl r) = ics sl (fun k => if k = i then r else f k) n := by
 induction n with
 | zero => omega
 | succ n ih =>
   rw [ics_succ, ics_succ]
   by_cases e : i < n
   · rw [List.set_append_left _ _ (by rw [ics_len]; omega), List.set_append_left _ _ (by rw [List.length_set, ics_len]; omega), ih e, if_neg (by omega)]
   · obtain rfl : i = n := by omega
     rw [List.set_append_right _ _ (by rw [ics_len]; omega), List.set_append_right _ _ (by rw [ics_len]; omega), ics_len, if_pos rfl]
     congr 1
     · exact ics_congr fun k hk => by rw [if_neg (by omega)]
     · rw [Nat.sub_self, show i * 2 + 1 - i * 2 = 1 by omega]; rfl
theorem ics_sw (sl : Nat → Value) (f : Nat → Nat) (n a b : Nat) (ha : a < n) (hb : b < n) :
 ((((ics sl f n).set (a * 2) (.int .i64 (f b))).set (a * 2 + 1) (sl (f b))).set (b * 2) (.int .i64 (f a))).set (b * 2 + 1) (sl (f a)) = ics sl (sw f a b) n := by
 rw [ics_set sl f n a (f b) ha, ics_set _ _ n b (f a) hb]
 refine ics_congr fun i _ => ?_
 unfold sw
 by_cases h1 : i = b
 · subst h1
   rw [if_pos rfl]
   by_cases h2 : i = a
   · subst h2; rw [if_pos rfl]
   · rw [if_neg h2, if_pos rfl]
 · rw [if_neg h1]
   by_cases h2 : i = a
   · rw [if_pos h2, if_pos h2]
   · rw [if_neg h2, if_neg h2, if_neg h1]
end
structure HM (w : World) (hb lo : Nat) (v : Value) (sl : Nat → Value) (f : Nat → Nat) (n : Nat) : Prop where
 h : Blk w hb [v, .func (.func 37) #[] #[]]
 o : w.ownsRow lo 78 2 v n (ics sl f n)
 lo : lo ≤ hb
 ne : v.ownBlock ≠ some hb
def hO (hb : Nat) (v : Value) (b : Nat) : Prop := b = hb ∨ v.ownBlock = some b
section
variable {w w' : World} {hb lo n : Nat} {v : Value} {sl : Nat → Value} {f : Nat → Nat}
theorem HM.kp {O : Nat → Prop} (h : HM w hb lo v sl f n) (k : Kp O w w') (hO : ∀ b, So.hO hb v b → ¬ O b) : HM w' hb lo v sl f n :=
 ⟨h.h.kp k (hO hb (.inl rfl)), own_kp h.o k fun g e => hO g (.inr e), h.lo, h.ne⟩
theorem HM.next (h : HM w hb lo v sl f n) (k : Below w.heap.size w w') : HM w' hb lo v sl f n := h.kp (Below.kp (fun _ => False) k) fun _ _ h => h
theorem HM.low (h : HM w hb lo v sl f n) : ∀ b, So.hO hb v b → lo ≤ b := fun b e => by
 rcases e with rfl | e
 · exact h.lo
 · rcases h.o.2 with ⟨rfl, _⟩ | ⟨g, cap, cur, rfl, hg, _⟩
   · cases e
   · cases e; exact hg
theorem HM.old (h : HM w hb lo v sl f n) : ∀ b, So.hO hb v b → b < w.heap.size := fun b e => by
 rcases e with rfl | e
 · exact h.h.lt
 · rcases h.o.2 with ⟨rfl, _⟩ | ⟨g, cap, cur, rfl, hg, hc, _⟩
   · cases e
   · cases e; exact (Array.getElem?_eq_some_iff.1 hc).1
theorem HM.shape (h : HM w hb lo v sl f n) (h0 : 0 < n) : ∃ g c, v = .slice (some ⟨g, 0, none⟩) n c ∧ g ≠ hb ∧ lo ≤ g ∧ n ≤ c := by
 rcases h.o.2 with ⟨rfl, h1⟩ | ⟨g, cap, cur, rfl, hg, hc, hn, _⟩
 · omega
 · exact ⟨g, cap, rfl, fun e => h.ne (by subst e; rfl), hg, hn⟩
theorem HM.cells {g c : Nat} (h : HM w hb lo (.slice (some ⟨g, 0, none⟩) n c) sl f n) {i : Nat} (hi : i < n) :
 w.cell? ⟨g, i * 2, none⟩ = some (.int .i64 (f i)) ∧ w.cell? ⟨g, i * 2 + 1, none⟩ = some (sl (f i)) ∧ w.frozen? ⟨g, i * 2, none⟩ = false ∧ w.frozen? ⟨g, i * 2 + 1, none⟩ = false := by
 refine ⟨?_, ?_, h.o.frozenAt _, h.o.frozenAt _⟩
 · rw [h.o.cellAt (i * 2) (by omega)]; exact ics_at sl f n i 0 hi (by omega)
 · rw [h.o.cellAt (i * 2 + 1) (by omega)]; exact ics_at sl f n i 1 hi (by omega)
theorem HM.put {g c : Nat} (h : HM w hb lo (.slice (some ⟨g, 0, none⟩) n c) sl f n) {i : Nat} (hi : i < n) (r : Nat) :
 HM ((w.setCell ⟨g, i * 2, none⟩ (.int .i64 r)).setCell ⟨g, i * 2 + 1, none⟩ (sl r)) hb lo (.slice (some ⟨g, 0, none⟩) n c) sl (fun k => if k = i then r else f k) n := by
 have hg : g ≠ hb := fun e => h.ne (by subst e; rfl)
 refine ⟨(h.h.put hg _ _).put hg _ _, ?_, h.lo, h.ne⟩
 rw [← ics_set sl f n i r hi]
 exact ((h.o.stored _ _).1.stored _ _).1
theorem HM.sw {g c : Nat} (h : HM w hb lo (.slice (some ⟨g, 0, none⟩) n c) sl f n) {a b : Nat} (ha : a < n) (hb' : b < n) :
 HM ((((w.setCell ⟨g, a * 2, none⟩ (.int .i64 (f b))).setCell ⟨g, a * 2 + 1, none⟩ (sl (f b))).setCell ⟨g, b * 2, none⟩ (.int .i64 (f a))).setCell ⟨g, b * 2 + 1, none⟩ (sl (f a))) hb lo (.slice (some ⟨g, 0, none⟩) n c) sl (So.sw f a b) n := by
 have hg : g ≠ hb := fun e => h.ne (by subst e; rfl)
 refine ⟨(((h.h.put hg _ _).put hg _ _).put hg _ _).put hg _ _, ?_, h.lo, h.ne⟩
 rw [← ics_sw sl f n a b ha hb']
 exact ((((h.o.stored _ _).1.stored _ _).1.stored _ _).1.stored _ _).1
end
theorem orl2 (a b : Int) : orl [a, b] = if a ≠ 0 then a else b := by
 simp only [orl]
 split
 · rfl
 · split
   · rfl
   · omega
theorem ahead_eq (p q : Pr) (a b : Nat) : decide (orl [cS p.1 q.1, cI a b] < 0) = (kl p q || (!kl q p && decide (a < b))) := by
 rw [orl2]
 unfold kl
 rcases less_total p.1 q.1 with h | h | h
 · rw [cS_lt h, h]; rfl
 · rw [cS_gt h, h, less_asymm h]; rfl
 · rw [h, cS_self, less_irrefl, if_neg (by simp)]
   unfold cI
   by_cases h1 : (a : Int) < b
   · rw [if_pos h1]; have : a < b := by omega
     simp [this]
   · rw [if_neg h1]; have : ¬ a < b := by omega
     split <;> simp [this]
set_option maxRecDepth 100000 in
set_option maxHeartbeats 2000000 in
theorem ahead_any (a b : Nat) (A O n c A' O' n' c' : Nat) (p q : Pr) (w : World) (hp : w.cell? ⟨A, O, none⟩ = some (.string (tx p.1))) (hq : w.cell? ⟨A', O', none⟩ = some (.string (tx q.1))) (hn : 0 < n) (hn' : 0 < n') :
 Calls Try.prog 37 #[.agg #[.int .i64 a, .slice (some ⟨A, O, none⟩) n c], .agg #[.int .i64 b, .slice (some ⟨A', O', none⟩) n' c']] w
  (Gives (.bool (kl p q || (!kl q p && decide (a < b)))) w) := by
 have HE := Lib.hid (ahead_eq p q a b)
 have HI := Lib.hid cmpI_any
 have HS := Lib.hid (cmpS_any (tx p.1) (tx q.1))
 rw [tx_list, tx_list] at HS
 generalize (kl p q || (!kl q p && decide (a < b))) = res at *
 generalize cS p.1 q.1 = c3 at *
 generalize tx p.1 = kp at *
 generalize tx q.1 = kq at *
 have hnz : (0 : Int) < (n : Int) := by omega
 have hnz' : (0 : Int) < (n' : Int) := by omega
 have HP := Lib.hid hp; have HQ := Lib.hid hq
 clear hp hq
 go_enter Try.func37, Try.ntmps37
 go_wp2_with (fail)
 have kb := Lib.hid (box2 w (.cells #[.int .i64 a, .slice (some ⟨A, O, none⟩) n c] 78) (.cells #[.int .i64 b, .slice (some ⟨A', O', none⟩) n' c'] 78))
 have D := (Blk.made w 78 [.int .i64 a, .slice (some ⟨A, O, none⟩) n c] rfl).old (.cells #[.int .i64 b, .slice (some ⟨A', O', none⟩) n' c'] 78)
 have E := Blk.made (w.alloc (.cells #[.int .i64 a, .slice (some ⟨A, O, none⟩) n c] 78)) 78 [.int .i64 b, .slice (some ⟨A', O', none⟩) n' c'] (World.size_alloc _ _)
 have F := (kb.out.cell (p := ⟨A, O, none⟩) (block_lt_of_cell HP.out)).trans HP.out
 have G := (kb.out.cell (p := ⟨A', O', none⟩) (block_lt_of_cell HQ.out)).trans HQ.out
 change Blk ((w.alloc (.cells #[.int .i64 a, .slice (some ⟨A, O, none⟩) n c] 78)).alloc (.cells #[.int .i64 b, .slice (some ⟨A', O', none⟩) n' c'] 78)) w.heap.size _ at D
 change Blk ((w.alloc (.cells #[.int .i64 a, .slice (some ⟨A, O, none⟩) n c] 78)).alloc (.cells #[.int .i64 b, .slice (some ⟨A', O', none⟩) n' c'] 78)) (w.heap.size + 1) _ at E
 generalize (w.alloc (.cells #[.int .i64 a, .slice (some ⟨A, O, none⟩) n c] 78)).alloc (.cells #[.int .i64 b, .slice (some ⟨A', O', none⟩) n' c'] 78) = v at *
 have d0 := fun r : Over v => (D.over r).c 0 _ rfl
 have d1 := fun r : Over v => (D.over r).c 1 _ rfl
 have e0 := fun r : Over v => (E.over r).c 0 _ rfl
 have e1 := fun r : Over v => (E.over r).c 1 _ rfl
 have f0 := fun r : Over v => over_cell r F
 have g0 := fun r : Over v => over_cell r G
 clear D E F G
 refine wp_over_tail 16 (by kernel_rfl) (by kernel_rfl) ?_
 simp only [List.take_succ_cons, List.take_zero, List.drop_succ_cons, List.drop_zero]
 repeat (go_big_quiet_step (first | fail | with_reducible exact over_id _ (HI.out _ _ _) | with_reducible exact over_id _ (HS.out _)))
 refine wpQuiet_nil ?_
 rintro w2 ⟨⟨w2, hb⟩, rfl⟩
 have HB := Lib.hid (Below.next kb.out hb)
 clear hb kb d0 d1 e0 e1 f0 g0
 go_wp2_with (fail)
 refine (or_any [c3, cI a b] w2.heap.size _ (Blk.made w2 3 [.int .i64 c3, .int .i64 (cI a b)] rfl) (by simp)).mono ?_
 rintro e w' ⟨rfl, rfl⟩
 have HB2 := Lib.hid (Below.next HB.out (box1 w2 (.cells #[.int .i64 c3, .int .i64 (cI a b)] 3)))
 have hE := HE.out
 generalize orl [c3, cI a b] = t at *
 subst hE
 go_wp2_with (fail)
 go_ret
 exact ⟨rfl, HB2.out⟩
end Go.Proofs.Ytamhfjlffacakaa.So
namespace Go.Proofs.Ytamhfjlffacakaa.Jo
open Go.ChangeShapes Go.WideShapes Go.ChangeAt Go.RowKit Ov Ga Va
theorem rg_tmod {n b : Int} (hb : 0 < b) : rg n b = if (n + b).tmod (2 * b) < 0 then (n + b).tmod (2 * b) + 2 * b - b else (n + b).tmod (2 * b) - b := by
 unfold rg
 have h2 := Int.lt_tmod_of_pos (n + b) (show 0 < 2 * b by omega)
 have h3 := Int.tmod_lt_of_pos (n + b) (show 0 < 2 * b by omega)
 have e : (n + b) % (2 * b) = ((n + b).tmod (2 * b)) % (2 * b) := by
  conv => lhs; rw [← Int.tmod_add_mul_tdiv (n + b) (2 * b), Int.add_mul_emod_self_left]
 rw [e]
 generalize (n + b).tmod (2 * b) = r at *
 split
 · rw [← Int.add_emod_right, Int.emod_eq_of_lt (by omega) (by omega)]
 · rw [Int.emod_eq_of_lt (by omega) (by omega)]
set_option maxRecDepth 100000 in
theorem rwrap_any (n b : Int) (hb : 0 < b ∧ b ≤ 9007199254740992) (hn : -36028797018963968 ≤ n ∧ n ≤ 36028797018963968) (w : World) : Calls Try.prog 49 #[.int .i64 n, .int .i64 b] w (Gives (.int .i64 (rg n b)) w) := by
 have h1 : wrap64 (n + b) = n + b := IntWalk.wrap64_in _ (by omega)
 have h2 : wrap64 (2 * b) = 2 * b := IntWalk.wrap64_in _ (by omega)
 have h5 : ((2 * b) == 0) = false := beq_eq_false_iff_ne.2 (by omega)
 have h6 : ¬ 2 * b = 0 := by omega
 have h7 := Int.lt_tmod_of_pos (n + b) (show 0 < 2 * b by omega)
 have h8 := Int.tmod_lt_of_pos (n + b) (show 0 < 2 * b by omega)
 have HG := Lib.hid (rg_tmod (n := n) hb.1)
 obtain ⟨r, hr⟩ : ∃ r, (n + b).tmod (2 * b) = r := ⟨_, rfl⟩
 rw [hr] at h7 h8 HG
 have h3 : wrap64 (r + 2 * b) = r + 2 * b := IntWalk.wrap64_in _ (by omega)
 have h4 : wrap64 (r + 2 * b - b) = r + 2 * b - b := IntWalk.wrap64_in _ (by omega)
 have h9 : wrap64 (r - b) = r - b := IntWalk.wrap64_in _ (by omega)
 by_cases hr0 : r < 0
 · have q1 : decide (r < 0) = true := decide_eq_true hr0
   have HE : Hid (rg n b = r + 2 * b - b) := Lib.hid (by rw [HG.out, if_pos hr0])
   clear hr0 HG hn hb h7 h8
   rw [HE.out]
   go_enter Try.func49, Try.ntmps49
   go_wp2_with (fail)
   go_ret
   exact ⟨by show Ending.returned (.int .i64 (wrap64 (r + 2 * b - b))) = _; rw [h4], Below.refl _ _⟩
 · have q1 : decide (r < 0) = false := decide_eq_false hr0
   have HE : Hid (rg n b = r - b) := Lib.hid (by rw [HG.out, if_neg hr0])
   clear hr0 HG hn hb h7 h8
   rw [HE.out]
   go_enter Try.func49, Try.ntmps49
   go_wp2_with (fail)
   go_ret
   exact ⟨by show Ending.returned (.int .i64 (wrap64 (r - b))) = _; rw [h9], Below.refl _ _⟩
set_option maxRecDepth 100000 in
theorem rgcd_any : ∀ (q p : Nat) (w : World), p ≤ 9007199254740992 → q ≤ 9007199254740992 → Calls Try.prog 51 #[.int .i64 (p : Int), .int .i64 (q : Int)] w (Gives (.int .i64 (Nat.gcd p q : Int)) w) := by
 intro q
 induction q using Nat.strongRecOn with
 | ind q ih =>
   intro p w hp hq
   by_cases h0 : q = 0
   · subst h0
     rw [Nat.gcd_zero_right]
     go_enter Try.func51, Try.ntmps51
     go_wp2_with (fail)
     go_ret
     exact ⟨rfl, Below.refl _ _⟩
   · have h1 : ((q : Int) == 0) = false := beq_eq_false_iff_ne.2 (by omega)
     have h2 : ¬ (q : Int) = 0 := by omega
     have h3 : (p : Int).tmod (q : Int) = ((p % q : Nat) : Int) := by rw [Int.ofNat_tmod]
     have hlt : p % q < q := Nat.mod_lt _ (by omega)
     have HI := Lib.hid (fun w1 => ih (p % q) hlt q w1 hq (by omega))
     have HE : Hid (Nat.gcd q (p % q) = Nat.gcd p q) := Lib.hid (by rw [Nat.gcd_comm q, ← Nat.gcd_rec, Nat.gcd_comm])
     rw [HE.out] at HI
     generalize p % q = m at *
     clear ih hlt
     go_enter Try.func51, Try.ntmps51
     go_wp2_with (fail)
     refine (HI.out _).mono ?_
     rintro e w1 ⟨rfl, hb⟩
     have HB := Lib.hid hb; clear hb
     go_wp2_with (fail)
     go_ret
     exact ⟨rfl, HB.out⟩
set_option maxHeartbeats 4000000 in
set_option maxRecDepth 100000 in
theorem rf_sn (c : ByteArray) (n x y n' x' y' : Int) (s s' : ByteArray) (w : World) (HF : Hid (∀ w, Calls Try.prog 47 #[.string c] w (Gives (.bool true) w))) (HA : Hid (∀ w, Calls Try.prog 22 #[.agg #[.int .i64 0, .int .i64 n, .string s, .int .i64 x, .int .i64 y]] w (Gives (.bool true) w))) (HQ : Hid (∀ w, Calls Try.prog 22 #[.agg #[.int .i64 0, .int .i64 n', .string s', .int .i64 x', .int .i64 y']] w (Gives (.bool true) w))) (qsum : (c.toList == [115, 117, 109]) = true) (qmax : (c.toList == [109, 97, 120]) = false) (qmin : (c.toList == [109, 105, 110]) = false) (o r : Int) (HO : Hid (∀ w, Calls Try.prog 48 #[.agg #[.int .i64 0, .int .i64 n, .string s, .int .i64 x, .int .i64 y], .agg #[.int .i64 0, .int .i64 n', .string s', .int .i64 x', .int .i64 y']] w (Gives (.int .i64 o) w))) (hsn : wrap64 (n + n') = n + n') (HW : Hid (∀ w, Calls Try.prog 49 #[.int .i64 (n + n'), .int .i64 9007199254740992] w (Gives (.int .i64 r) w))) :
 Calls Try.prog 29 #[.string c, .agg #[.int .i64 0, .int .i64 n, .string s, .int .i64 x, .int .i64 y], .agg #[.int .i64 0, .int .i64 n', .string s', .int .i64 x', .int .i64 y']] w (Gives (.tuple #[.agg #[.int .i64 0, .int .i64 r, .string ⟨#[]⟩, .int .i64 0, .int .i64 0], .int .i64 0]) w) := by
 obtain ⟨D1, D2, D3, hb0⟩ := two_boxes w 33 [.int .i64 0, .int .i64 n, .string s, .int .i64 x, .int .i64 y] [.int .i64 0, .int .i64 n', .string s', .int .i64 x', .int .i64 y'] [.int .i64 0, .int .i64 0, .string ⟨#[]⟩, .int .i64 0, .int .i64 0]
 have H1 := Lib.hid D1; have H2 := Lib.hid D2; have H3 := Lib.hid D3; have HB := Lib.hid hb0; clear D1 D2 D3 hb0
 go_enter Try.func29, Try.ntmps29
 go_wp2_with (fail)
 refine (HF.out _).mono ?_
 rintro e w42 ⟨rfl, hb⟩
 replace H1 := Lib.hid (H1.out.next hb); replace H2 := Lib.hid (H2.out.next hb); replace H3 := Lib.hid (H3.out.next hb); replace HB := Lib.hid (Below.next HB.out hb); clear hb
 obtain ⟨c0, c1, c2, c3, c4⟩ := five H1.out
 obtain ⟨d0, d1, d2, d3, d4⟩ := five H2.out
 go_wp2_with (fail)
 clear c0 c1 c2 c3 c4 d0 d1 d2 d3 d4
 refine (HA.out _).mono ?_
 rintro e w43 ⟨rfl, hb⟩
 replace H1 := Lib.hid (H1.out.next hb); replace H2 := Lib.hid (H2.out.next hb); replace H3 := Lib.hid (H3.out.next hb); replace HB := Lib.hid (Below.next HB.out hb); clear hb
 obtain ⟨c0, c1, c2, c3, c4⟩ := five H1.out
 obtain ⟨d0, d1, d2, d3, d4⟩ := five H2.out
 go_wp2_with (fail)
 clear c0 c1 c2 c3 c4 d0 d1 d2 d3 d4
 refine (HQ.out _).mono ?_
 rintro e w44 ⟨rfl, hb⟩
 replace H1 := Lib.hid (H1.out.next hb); replace H2 := Lib.hid (H2.out.next hb); replace H3 := Lib.hid (H3.out.next hb); replace HB := Lib.hid (Below.next HB.out hb); clear hb
 obtain ⟨c0, c1, c2, c3, c4⟩ := five H1.out
 obtain ⟨d0, d1, d2, d3, d4⟩ := five H2.out
 go_wp2_with (fail)
 clear c0 c1 c2 c3 c4 d0 d1 d2 d3 d4
 refine (HO.out _).mono ?_
 rintro e w40 ⟨rfl, hb⟩
 replace H1 := Lib.hid (H1.out.next hb); replace H2 := Lib.hid (H2.out.next hb); replace H3 := Lib.hid (H3.out.next hb); replace HB := Lib.hid (Below.next HB.out hb); clear hb
 obtain ⟨c0, c1, c2, c3, c4⟩ := five H1.out
 obtain ⟨d0, d1, d2, d3, d4⟩ := five H2.out
 go_wp2_with (fail)
 clear c0 c1 c2 c3 c4 d0 d1 d2 d3 d4
 refine (HW.out _).mono ?_
 rintro e w41 ⟨rfl, hb⟩
 replace H1 := Lib.hid (H1.out.next hb); replace H2 := Lib.hid (H2.out.next hb); replace H3 := Lib.hid (H3.out.next hb); replace HB := Lib.hid (Below.next HB.out hb); clear hb
 obtain ⟨f0, f1, f2, f3, f4⟩ := thaw H3.out
 obtain ⟨e0, e1, e2, e3, e4⟩ := five H3.out
 go_wp2_with (fail)
 clear f0 f1 f2 f3 f4 e0 e1 e2 e3 e4
 refine fin5 (P := bodyPost _ _ _ _ _) H3.out HB.out (by omega) _ _ _ _ _ fun w9 hx hy _ => ?_
 obtain ⟨c0, c1, c2, c3, c4⟩ := five hx
 exact bodyPost_ret (v := .tuple #[.agg #[.int .i64 0, .int .i64 r, .string ⟨#[]⟩, .int .i64 0, .int .i64 0], .int .i64 0]) (by simp [results, Try.results29, go_sem, c0, c1, c2, c3, c4]) rfl ⟨rfl, hy⟩
set_option maxHeartbeats 4000000 in
set_option maxRecDepth 100000 in
theorem rf_sp (c : ByteArray) (n x y n' x' y' : Int) (s s' : ByteArray) (w : World) (HF : Hid (∀ w, Calls Try.prog 47 #[.string c] w (Gives (.bool true) w))) (HA : Hid (∀ w, Calls Try.prog 22 #[.agg #[.int .i64 2, .int .i64 n, .string s, .int .i64 x, .int .i64 y]] w (Gives (.bool true) w))) (HQ : Hid (∀ w, Calls Try.prog 22 #[.agg #[.int .i64 2, .int .i64 n', .string s', .int .i64 x', .int .i64 y']] w (Gives (.bool true) w))) (qsum : (c.toList == [115, 117, 109]) = true) (qmax : (c.toList == [109, 97, 120]) = false) (qmin : (c.toList == [109, 105, 110]) = false) (o r q : Int) (HO : Hid (∀ w, Calls Try.prog 48 #[.agg #[.int .i64 2, .int .i64 n, .string s, .int .i64 x, .int .i64 y], .agg #[.int .i64 2, .int .i64 n', .string s', .int .i64 x', .int .i64 y']] w (Gives (.int .i64 o) w))) (hx : wrap64 (x + x') = x + x') (hy : wrap64 (y + y') = y + y') (HX : Hid (∀ w, Calls Try.prog 49 #[.int .i64 (x + x'), .int .i64 16777216] w (Gives (.int .i64 r) w))) (HY : Hid (∀ w, Calls Try.prog 49 #[.int .i64 (y + y'), .int .i64 16777216] w (Gives (.int .i64 q) w))) :
 Calls Try.prog 29 #[.string c, .agg #[.int .i64 2, .int .i64 n, .string s, .int .i64 x, .int .i64 y], .agg #[.int .i64 2, .int .i64 n', .string s', .int .i64 x', .int .i64 y']] w (Gives (.tuple #[.agg #[.int .i64 2, .int .i64 0, .string ⟨#[]⟩, .int .i64 r, .int .i64 q], .int .i64 0]) w) := by
 obtain ⟨D1, D2, D3, hb0⟩ := two_boxes w 33 [.int .i64 2, .int .i64 n, .string s, .int .i64 x, .int .i64 y] [.int .i64 2, .int .i64 n', .string s', .int .i64 x', .int .i64 y'] [.int .i64 0, .int .i64 0, .string ⟨#[]⟩, .int .i64 0, .int .i64 0]
 have H1 := Lib.hid D1; have H2 := Lib.hid D2; have H3 := Lib.hid D3; have HB := Lib.hid hb0; clear D1 D2 D3 hb0
 go_enter Try.func29, Try.ntmps29
 go_wp2_with (fail)
 refine (HF.out _).mono ?_
 rintro e w46 ⟨rfl, hb⟩
 replace H1 := Lib.hid (H1.out.next hb); replace H2 := Lib.hid (H2.out.next hb); replace H3 := Lib.hid (H3.out.next hb); replace HB := Lib.hid (Below.next HB.out hb); clear hb
 obtain ⟨c0, c1, c2, c3, c4⟩ := five H1.out
 obtain ⟨d0, d1, d2, d3, d4⟩ := five H2.out
 go_wp2_with (fail)
 clear c0 c1 c2 c3 c4 d0 d1 d2 d3 d4
 refine (HA.out _).mono ?_
 rintro e w47 ⟨rfl, hb⟩
 replace H1 := Lib.hid (H1.out.next hb); replace H2 := Lib.hid (H2.out.next hb); replace H3 := Lib.hid (H3.out.next hb); replace HB := Lib.hid (Below.next HB.out hb); clear hb
 obtain ⟨c0, c1, c2, c3, c4⟩ := five H1.out
 obtain ⟨d0, d1, d2, d3, d4⟩ := five H2.out
 go_wp2_with (fail)
 clear c0 c1 c2 c3 c4 d0 d1 d2 d3 d4
 refine (HQ.out _).mono ?_
 rintro e w48 ⟨rfl, hb⟩
 replace H1 := Lib.hid (H1.out.next hb); replace H2 := Lib.hid (H2.out.next hb); replace H3 := Lib.hid (H3.out.next hb); replace HB := Lib.hid (Below.next HB.out hb); clear hb
 obtain ⟨c0, c1, c2, c3, c4⟩ := five H1.out
 obtain ⟨d0, d1, d2, d3, d4⟩ := five H2.out
 go_wp2_with (fail)
 clear c0 c1 c2 c3 c4 d0 d1 d2 d3 d4
 refine (HO.out _).mono ?_
 rintro e w45 ⟨rfl, hb⟩
 replace H1 := Lib.hid (H1.out.next hb); replace H2 := Lib.hid (H2.out.next hb); replace H3 := Lib.hid (H3.out.next hb); replace HB := Lib.hid (Below.next HB.out hb); clear hb
 obtain ⟨c0, c1, c2, c3, c4⟩ := five H1.out
 obtain ⟨d0, d1, d2, d3, d4⟩ := five H2.out
 go_upto_region 15 with (fail)
 clear c0 c1 c2 c3 c4 d0 d1 d2 d3 d4
 generalize w45 = v at *
 have k3 := fun r : Over v => (H1.out.over r).c 3 _ rfl
 have l3 := fun r : Over v => (H2.out.over r).c 3 _ rfl
 have k4 := fun r : Over v => (H1.out.over r).c 4 _ rfl
 have l4 := fun r : Over v => (H2.out.over r).c 4 _ rfl
 refine wp_over_tail 18 (by kernel_rfl) (by kernel_rfl) ?_
 simp only [List.take_succ_cons, List.take_zero, List.drop_succ_cons, List.drop_zero]
 repeat (go_big_quiet_step (first | fail | with_reducible exact over_gives _ (HX.out _) | with_reducible exact over_gives _ (HY.out _)))
 refine wpQuiet_nil ?_
 rintro wq ⟨⟨w8, hb⟩, rfl⟩
 replace H1 := Lib.hid (H1.out.next hb); replace H2 := Lib.hid (H2.out.next hb); replace H3 := Lib.hid (H3.out.next hb); replace HB := Lib.hid (Below.next HB.out hb); clear hb k3 k4 l3 l4
 obtain ⟨f0, f1, f2, f3, f4⟩ := thaw H3.out
 obtain ⟨e0, e1, e2, e3, e4⟩ := five H3.out
 go_wp2_with (fail)
 clear f0 f1 f2 f3 f4 e0 e1 e2 e3 e4
 refine fin5 (P := bodyPost _ _ _ _ _) H3.out HB.out (by omega) _ _ _ _ _ fun w9 hx hy _ => ?_
 obtain ⟨c0, c1, c2, c3, c4⟩ := five hx
 exact bodyPost_ret (v := .tuple #[.agg #[.int .i64 2, .int .i64 0, .string ⟨#[]⟩, .int .i64 r, .int .i64 q], .int .i64 0]) (by simp [results, Try.results29, go_sem, c0, c1, c2, c3, c4]) rfl ⟨rfl, hy⟩
set_option maxHeartbeats 4000000 in
set_option maxRecDepth 100000 in
theorem rf_gp (c : ByteArray) (n x y n' x' y' : Int) (s s' : ByteArray) (w : World) (HF : Hid (∀ w, Calls Try.prog 47 #[.string c] w (Gives (.bool true) w))) (HA : Hid (∀ w, Calls Try.prog 22 #[.agg #[.int .i64 2, .int .i64 n, .string s, .int .i64 x, .int .i64 y]] w (Gives (.bool true) w))) (HQ : Hid (∀ w, Calls Try.prog 22 #[.agg #[.int .i64 2, .int .i64 n', .string s', .int .i64 x', .int .i64 y']] w (Gives (.bool true) w))) (qsum : (c.toList == [115, 117, 109]) = false) (qmax : (c.toList == [109, 97, 120]) = false) (qmin : (c.toList == [109, 105, 110]) = false) (o r q : Int) (HO : Hid (∀ w, Calls Try.prog 48 #[.agg #[.int .i64 2, .int .i64 n, .string s, .int .i64 x, .int .i64 y], .agg #[.int .i64 2, .int .i64 n', .string s', .int .i64 x', .int .i64 y']] w (Gives (.int .i64 o) w))) (HC : Hid (∀ w, Calls Try.prog 50 #[.agg #[.int .i64 x, .int .i64 y], .agg #[.int .i64 x', .int .i64 y']] w (Gives (.agg #[.int .i64 r, .int .i64 q]) w))) :
 Calls Try.prog 29 #[.string c, .agg #[.int .i64 2, .int .i64 n, .string s, .int .i64 x, .int .i64 y], .agg #[.int .i64 2, .int .i64 n', .string s', .int .i64 x', .int .i64 y']] w (Gives (.tuple #[.agg #[.int .i64 2, .int .i64 0, .string ⟨#[]⟩, .int .i64 r, .int .i64 q], .int .i64 0]) w) := by
 obtain ⟨D1, D2, D3, hb0⟩ := two_boxes w 33 [.int .i64 2, .int .i64 n, .string s, .int .i64 x, .int .i64 y] [.int .i64 2, .int .i64 n', .string s', .int .i64 x', .int .i64 y'] [.int .i64 0, .int .i64 0, .string ⟨#[]⟩, .int .i64 0, .int .i64 0]
 have H1 := Lib.hid D1; have H2 := Lib.hid D2; have H3 := Lib.hid D3; have HB := Lib.hid hb0; clear D1 D2 D3 hb0
 go_enter Try.func29, Try.ntmps29
 go_wp2_with (fail)
 refine (HF.out _).mono ?_
 rintro e w51 ⟨rfl, hb⟩
 replace H1 := Lib.hid (H1.out.next hb); replace H2 := Lib.hid (H2.out.next hb); replace H3 := Lib.hid (H3.out.next hb); replace HB := Lib.hid (Below.next HB.out hb); clear hb
 obtain ⟨c0, c1, c2, c3, c4⟩ := five H1.out
 obtain ⟨d0, d1, d2, d3, d4⟩ := five H2.out
 go_wp2_with (fail)
 clear c0 c1 c2 c3 c4 d0 d1 d2 d3 d4
 refine (HA.out _).mono ?_
 rintro e w52 ⟨rfl, hb⟩
 replace H1 := Lib.hid (H1.out.next hb); replace H2 := Lib.hid (H2.out.next hb); replace H3 := Lib.hid (H3.out.next hb); replace HB := Lib.hid (Below.next HB.out hb); clear hb
 obtain ⟨c0, c1, c2, c3, c4⟩ := five H1.out
 obtain ⟨d0, d1, d2, d3, d4⟩ := five H2.out
 go_wp2_with (fail)
 clear c0 c1 c2 c3 c4 d0 d1 d2 d3 d4
 refine (HQ.out _).mono ?_
 rintro e w53 ⟨rfl, hb⟩
 replace H1 := Lib.hid (H1.out.next hb); replace H2 := Lib.hid (H2.out.next hb); replace H3 := Lib.hid (H3.out.next hb); replace HB := Lib.hid (Below.next HB.out hb); clear hb
 obtain ⟨c0, c1, c2, c3, c4⟩ := five H1.out
 obtain ⟨d0, d1, d2, d3, d4⟩ := five H2.out
 go_wp2_with (fail)
 clear c0 c1 c2 c3 c4 d0 d1 d2 d3 d4
 refine (HO.out _).mono ?_
 rintro e w49 ⟨rfl, hb⟩
 replace H1 := Lib.hid (H1.out.next hb); replace H2 := Lib.hid (H2.out.next hb); replace H3 := Lib.hid (H3.out.next hb); replace HB := Lib.hid (Below.next HB.out hb); clear hb
 obtain ⟨c0, c1, c2, c3, c4⟩ := five H1.out
 obtain ⟨d0, d1, d2, d3, d4⟩ := five H2.out
 go_wp2_with (fail)
 clear c0 c1 c2 c3 c4 d0 d1 d2 d3 d4
 refine (HC.out _).mono ?_
 rintro e w50 ⟨rfl, hb⟩
 replace H1 := Lib.hid (H1.out.next hb); replace H2 := Lib.hid (H2.out.next hb); replace H3 := Lib.hid (H3.out.next hb); replace HB := Lib.hid (Below.next HB.out hb); clear hb
 obtain ⟨f0, f1, f2, f3, f4⟩ := thaw H3.out
 obtain ⟨e0, e1, e2, e3, e4⟩ := five H3.out
 go_wp2_with (fail)
 clear f0 f1 f2 f3 f4 e0 e1 e2 e3 e4
 refine fin5 (P := bodyPost _ _ _ _ _) H3.out HB.out (by omega) _ _ _ _ _ fun w9 hx hy _ => ?_
 obtain ⟨c0, c1, c2, c3, c4⟩ := five hx
 exact bodyPost_ret (v := .tuple #[.agg #[.int .i64 2, .int .i64 0, .string ⟨#[]⟩, .int .i64 r, .int .i64 q], .int .i64 0]) (by simp [results, Try.results29, go_sem, c0, c1, c2, c3, c4]) rfl ⟨rfl, hy⟩
set_option maxHeartbeats 4000000 in
set_option maxRecDepth 100000 in
theorem rf_gn (c : ByteArray) (n x y n' x' y' : Int) (s s' : ByteArray) (w : World) (HF : Hid (∀ w, Calls Try.prog 47 #[.string c] w (Gives (.bool true) w))) (HA : Hid (∀ w, Calls Try.prog 22 #[.agg #[.int .i64 0, .int .i64 n, .string s, .int .i64 x, .int .i64 y]] w (Gives (.bool true) w))) (HQ : Hid (∀ w, Calls Try.prog 22 #[.agg #[.int .i64 0, .int .i64 n', .string s', .int .i64 x', .int .i64 y']] w (Gives (.bool true) w))) (qsum : (c.toList == [115, 117, 109]) = false) (qmax : (c.toList == [109, 97, 120]) = false) (qmin : (c.toList == [109, 105, 110]) = false) (o r : Int) (HO : Hid (∀ w, Calls Try.prog 48 #[.agg #[.int .i64 0, .int .i64 n, .string s, .int .i64 x, .int .i64 y], .agg #[.int .i64 0, .int .i64 n', .string s', .int .i64 x', .int .i64 y']] w (Gives (.int .i64 o) w))) (hm : max n (wrap64 (-n)) = (n.natAbs : Int)) (hm' : max n' (wrap64 (-n')) = (n'.natAbs : Int)) (HG : Hid (∀ w, Calls Try.prog 51 #[.int .i64 (n.natAbs : Int), .int .i64 (n'.natAbs : Int)] w (Gives (.int .i64 r) w))) :
 Calls Try.prog 29 #[.string c, .agg #[.int .i64 0, .int .i64 n, .string s, .int .i64 x, .int .i64 y], .agg #[.int .i64 0, .int .i64 n', .string s', .int .i64 x', .int .i64 y']] w (Gives (.tuple #[.agg #[.int .i64 0, .int .i64 r, .string ⟨#[]⟩, .int .i64 0, .int .i64 0], .int .i64 0]) w) := by
 obtain ⟨D1, D2, D3, hb0⟩ := two_boxes w 33 [.int .i64 0, .int .i64 n, .string s, .int .i64 x, .int .i64 y] [.int .i64 0, .int .i64 n', .string s', .int .i64 x', .int .i64 y'] [.int .i64 0, .int .i64 0, .string ⟨#[]⟩, .int .i64 0, .int .i64 0]
 have H1 := Lib.hid D1; have H2 := Lib.hid D2; have H3 := Lib.hid D3; have HB := Lib.hid hb0; clear D1 D2 D3 hb0
 go_enter Try.func29, Try.ntmps29
 go_wp2_with (fail)
 refine (HF.out _).mono ?_
 rintro e w56 ⟨rfl, hb⟩
 replace H1 := Lib.hid (H1.out.next hb); replace H2 := Lib.hid (H2.out.next hb); replace H3 := Lib.hid (H3.out.next hb); replace HB := Lib.hid (Below.next HB.out hb); clear hb
 obtain ⟨c0, c1, c2, c3, c4⟩ := five H1.out
 obtain ⟨d0, d1, d2, d3, d4⟩ := five H2.out
 go_wp2_with (fail)
 clear c0 c1 c2 c3 c4 d0 d1 d2 d3 d4
 refine (HA.out _).mono ?_
 rintro e w57 ⟨rfl, hb⟩
 replace H1 := Lib.hid (H1.out.next hb); replace H2 := Lib.hid (H2.out.next hb); replace H3 := Lib.hid (H3.out.next hb); replace HB := Lib.hid (Below.next HB.out hb); clear hb
 obtain ⟨c0, c1, c2, c3, c4⟩ := five H1.out
 obtain ⟨d0, d1, d2, d3, d4⟩ := five H2.out
 go_wp2_with (fail)
 clear c0 c1 c2 c3 c4 d0 d1 d2 d3 d4
 refine (HQ.out _).mono ?_
 rintro e w58 ⟨rfl, hb⟩
 replace H1 := Lib.hid (H1.out.next hb); replace H2 := Lib.hid (H2.out.next hb); replace H3 := Lib.hid (H3.out.next hb); replace HB := Lib.hid (Below.next HB.out hb); clear hb
 obtain ⟨c0, c1, c2, c3, c4⟩ := five H1.out
 obtain ⟨d0, d1, d2, d3, d4⟩ := five H2.out
 go_wp2_with (fail)
 clear c0 c1 c2 c3 c4 d0 d1 d2 d3 d4
 refine (HO.out _).mono ?_
 rintro e w54 ⟨rfl, hb⟩
 replace H1 := Lib.hid (H1.out.next hb); replace H2 := Lib.hid (H2.out.next hb); replace H3 := Lib.hid (H3.out.next hb); replace HB := Lib.hid (Below.next HB.out hb); clear hb
 obtain ⟨c0, c1, c2, c3, c4⟩ := five H1.out
 obtain ⟨d0, d1, d2, d3, d4⟩ := five H2.out
 go_wp2_with (fail)
 clear c0 c1 c2 c3 c4 d0 d1 d2 d3 d4
 refine (HG.out _).mono ?_
 rintro e w55 ⟨rfl, hb⟩
 replace H1 := Lib.hid (H1.out.next hb); replace H2 := Lib.hid (H2.out.next hb); replace H3 := Lib.hid (H3.out.next hb); replace HB := Lib.hid (Below.next HB.out hb); clear hb
 obtain ⟨f0, f1, f2, f3, f4⟩ := thaw H3.out
 obtain ⟨e0, e1, e2, e3, e4⟩ := five H3.out
 go_wp2_with (fail)
 clear f0 f1 f2 f3 f4 e0 e1 e2 e3 e4
 refine fin5 (P := bodyPost _ _ _ _ _) H3.out HB.out (by omega) _ _ _ _ _ fun w9 hx hy _ => ?_
 obtain ⟨c0, c1, c2, c3, c4⟩ := five hx
 exact bodyPost_ret (v := .tuple #[.agg #[.int .i64 0, .int .i64 r, .string ⟨#[]⟩, .int .i64 0, .int .i64 0], .int .i64 0]) (by simp [results, Try.results29, go_sem, c0, c1, c2, c3, c4]) rfl ⟨rfl, hy⟩
end Go.Proofs.Ytamhfjlffacakaa.Jo
namespace Go.Proofs.Ytamhfjlffacakaa.Pr
open Go.ChangeShapes Go.WideShapes Go.ChangeAt Go.RowKit Ov Va
section
variable {H : Type} {enc : TypeId × Value → H} {w : World} {base : Nat} {spare : Nat → Bool} {held : Bool}
def vdt {H : Type} (k n : Int) (s : ByteArray) (x y : Int) : DataW H := .agg [.lit (.int .i64 k), .lit (.int .i64 n), .lit (.string s.data.toList), .agg [.lit (.int .i64 x), .lit (.int .i64 y)]]
set_option maxRecDepth 100000 in
theorem val_cells {fuel : Nat} {a0 a1 a2 a3 a4 : Value} {z : DataW H × List MemPlace} (h : DataW.trod enc Try.prog w base spare held fuel 33 [a0, a1, a2, a3, a4] = some z) :
 ∃ (k n : Int) (s : ByteArray) (x y : Int), [a0, a1, a2, a3, a4] = [.int .i64 k, .int .i64 n, .string s, .int .i64 x, .int .i64 y] ∧ z = (vdt k n s x y, []) ∧
  (Lit.int .i64 k).wf = true ∧ (Lit.int .i64 n).wf = true ∧ s.size ≤ maxLen ∧ (Lit.int .i64 x).wf = true ∧ (Lit.int .i64 y).wf = true := by
 have c1 : Try.prog.cellsOf 3 = 1 := by kernel_rfl
 have c2 : Try.prog.cellsOf 9 = 1 := by kernel_rfl
 have c3 : Try.prog.cellsOf 31 = 2 := by kernel_rfl
 obtain ⟨y0, y1, y2, y3, m, hx, _, h0, h1, h2, h3⟩ := Joins.trod_struct4 Try.underlying33 h
 simp only [c1, c2, c3] at h0 h1 h2 h3
 obtain ⟨k, e0, rfl, w0⟩ := DataW.trod_int Try.underlying3 h0
 obtain ⟨n, e1, rfl, w1⟩ := DataW.trod_int Try.underlying3 h1
 obtain ⟨s, e2, rfl, w2⟩ := DataW.trod_string Try.underlying9 h2
 obtain ⟨z0, z1, m', hz, _, g0, g1⟩ := trod_struct2 Try.underlying31 h3
 simp only [c1] at g0 g1
 obtain ⟨x, f0, rfl, u0⟩ := DataW.trod_int Try.underlying3 g0
 obtain ⟨y, f1, rfl, u1⟩ := DataW.trod_int Try.underlying3 g1
 have e3 : [a0] = [Value.int .i64 k] := e0
 have e4 : [a1] = [Value.int .i64 n] := e1
 have e5 : [a2] = [Value.string s] := e2
 have e6 : [a3] = [Value.int .i64 x] := f0
 have e7 : [a4] = [Value.int .i64 y] := f1
 obtain rfl : a0 = .int .i64 k := by simpa using e3
 obtain rfl : a1 = .int .i64 n := by simpa using e4
 obtain rfl : a2 = .string s := by simpa using e5
 obtain rfl : a3 = .int .i64 x := by simpa using e6
 obtain rfl : a4 = .int .i64 y := by simpa using e7
 subst hz
 exact ⟨k, n, s, x, y, rfl, by rw [hx]; rfl, w0, w1, w2, u0, u1⟩
set_option maxRecDepth 100000 in
theorem pair_cells {fuel : Nat} {cs : List Value} {z : DataW H × List MemPlace} (h : DataW.trod enc Try.prog w base spare held fuel 35 cs = some z) :
 ∃ (u : ByteArray) (k n : Int) (s : ByteArray) (x y : Int), cs = [.string u, .int .i64 k, .int .i64 n, .string s, .int .i64 x, .int .i64 y] ∧ z = (.agg [.lit (.string u.data.toList), vdt k n s x y], []) ∧
  u.size ≤ maxLen ∧ (Lit.int .i64 k).wf = true ∧ (Lit.int .i64 n).wf = true ∧ s.size ≤ maxLen ∧ (Lit.int .i64 x).wf = true ∧ (Lit.int .i64 y).wf = true := by
 have c2 : Try.prog.cellsOf 9 = 1 := by kernel_rfl
 have c4 : Try.prog.cellsOf 33 = 5 := by kernel_rfl
 have c5 : Try.prog.cellsOf 35 = 6 := by kernel_rfl
 obtain ⟨y0, y1, m, hx, hl, g0, g1⟩ := trod_struct2 Try.underlying35 h
 rw [c5] at hl
 match cs, hl with
 | [a0, a1, a2, a3, a4, a5], _ =>
   simp only [c2, c4] at g0 g1
   obtain ⟨u, e0, rfl, w0⟩ := DataW.trod_string Try.underlying9 g0
   have e1 : [a0] = [Value.string u] := e0
   obtain rfl : a0 = .string u := by simpa using e1
   change DataW.trod enc Try.prog w base spare held m 33 [a1, a2, a3, a4, a5] = _ at g1
   obtain ⟨k, n, s, x, y, e2, rfl, q⟩ := val_cells g1
   simp only [List.cons.injEq, and_true] at e2
   obtain ⟨rfl, rfl, rfl, rfl, rfl⟩ := e2
   exact ⟨u, k, n, s, x, y, rfl, hx, w0, q⟩
end
theorem pcl_lt {p : Pr} {j : Nat} {v : Value} (h : (pcl p)[j]? = some v) : j < 6 := (List.getElem?_eq_some_iff.1 h).1
theorem plain_addr {w : World} {a : Addr} {v : Value} (h : w.cell? a = some v) : a = ⟨a.block, a.off, none⟩ := by
 obtain ⟨b, off, spot⟩ := a
 have hspot : spot = none := World.cell?_spot h
 subst hspot; rfl
def PrIn (w : World) (p : Option Addr) (n c : Nat) (l : List Pr) : Prop := l.length = n ∧ PIn w (p, c, l) ∧ n ≤ maxLen ∧ n ≤ c
set_option maxRecDepth 100000 in
theorem pairs_of {H : Type} {enc : TypeId × Value → H} {W : World} {p : Option Addr} {n c : Nat} {d : DataW H} {ps : List MemPlace} (h : DataW.Trod enc Try.prog W 0 (fun _ => true) true 22 (.slice p n c) d ps) : ∃ l : List Pr, PrIn W p n c l := by
 have c5 : Try.prog.cellsOf 35 = 6 := by kernel_rfl
 obtain ⟨fuel, hf⟩ := h
 rcases Go.Deep.open_slice Try.underlying22 hf with ⟨hcs, _⟩ | ⟨a, len, cap, m, f, D, Pl, hcs, _, hlc, hcm, hm, _, hall⟩
 · simp [Value.cells] at hcs
   obtain ⟨rfl, rfl, rfl⟩ := hcs
   exact ⟨[], rfl, ⟨Prs.nil _ _, fun _ => ⟨rfl, rfl⟩⟩, Nat.zero_le _, Nat.zero_le _⟩
 · simp [Value.cells] at hcs
   obtain ⟨rfl, rfl, rfl⟩ := hcs
   simp at hm
   subst hm
   have hz : ∀ i, i < m → ∃ q : Pr, ∀ j v, (pcl q)[j]? = some v → W.cell? ((a.add (i * 6)).add j) = some v := fun i hi => by
    obtain ⟨cs', hc, ht⟩ := hall i hi
    rw [c5] at hc
    obtain ⟨u, k, n', s, x, y, e, _⟩ := pair_cells ht
    have e' : cs' = pcl (u.data.toList, ⟨k, n', s.data.toList, x, y⟩) := by rw [e]; unfold pcl; dsimp only; rw [tx_of, tx_of]
    rw [e'] at hc
    obtain ⟨_, _, hat⟩ := World.cells?_some hc
    exact ⟨_, fun j v hv => by rw [hat j (pcl_lt hv)]; exact hv⟩
   obtain ⟨q, hq⟩ := Go.Deep.choose_lt hz
   have hget : ∀ i, i < n → pd ((List.range n).map q) i = q i := fun i hi => by unfold pd; simp [hi]
   refine ⟨(List.range n).map q, by simp, ⟨fun hn => ?_, fun h => nomatch h⟩, Nat.le_trans hlc hcm, hlc⟩
   have hn' : 0 < n := by simpa using hn
   have h0 := hq 0 (by omega) 0 _ rfl
   have ha := plain_addr (show W.cell? a = _ by simpa [Addr.add] using h0)
   refine ⟨a.block, a.off, congrArg some ha, fun i j v hi hv => ?_⟩
   have hi' : i < n := by simpa using hi
   rw [hget i hi'] at hv
   have := hq i (by omega) j v hv
   rw [ha, Go.WideShapes.add_plain, Go.WideShapes.add_plain] at this
   exact this
end Go.Proofs.Ytamhfjlffacakaa.Pr

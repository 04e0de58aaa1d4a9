/-
  Small texts of this claim, together: StSort, PrMem, PrCat, VaOrder, JoFold, SoMem, SoPut, SoSink, SoRuns, PrArg.
-/
import Derived.Test.YtkbhnphkopgccaaQStSym
import Derived.Test.YtkbhnphkopgccaaQ2
import Derived.Test.YtkbhnphkopgccaaQ1
import Derived.Lib.OwnBridge
import Derived.Deep.Heap
import Derived.Shelf.Spec.SlicesGrow
import Derived.Laws.AppendOwnNone
import Derived.Laws.OwnMore
import Derived.Test.YtkbhnphkopgccaaQVaRight
import Derived.BigRegion
import Derived.Maps.AppendAt
import Derived.Deep.Slices
import Derived.DataReads
namespace Go.Proofs.Ytkbhnphkopgccaa.St
open Go.Proofs Go.RowKit Go.Shelf Go.Lib Go.Sort
section
variable {P : Program} {α : Type} [Inhabited α]
theorem insertion (L : StL P) (k : Nat) (aE : ∀ w, (isAgg 49).run P w = .ok true w) (zE : ∀ w, (Go.sizeOf 49).run P w = .ok k w) (enc : α → List Value) (cf : α → α → Int) (g : Nat) (cb : Array Value) (blk off cap : Nat) (d0 : Array α) (w0 : World) (hO : SWO (ltOf cf))
 (eg : ∀ args w, (callFunc g args).run P w = .ok (.enter g args) w) (hcmp : CmpLays P g cb enc k cf blk off d0.size w0) (R : RowK enc k w0 blk off d0) (a b : Nat) (d : Array α) (w : World)
 (hs : d0.size = d.size) (S : SWK enc k w0 blk off d w) (hab : a ≤ b) (hb : b ≤ d.size) (hsz : d.size < 4611686018427387904) :
 Calls P 78 #[.slice (some ⟨blk, off, none⟩) d.size cap, .int .i64 a, .int .i64 b, .func (.func g) #[] cb] w fun e w' => e = .returned (.tuple #[]) ∧ ∃ d', Srt (ltOf cf) a b d d' ∧ SWK enc k w0 blk off d' w' := by
 have hI := srt_ins hO d a b hab hb
 have hC : CmpLays P g cb enc k cf blk off d.size w := fun m os dk hdk x y => by
  obtain ⟨n0, os0, rfl⟩ := S
  rw [sortWorldK_on enc k w0 blk off n0 m d dk os0 os R.hblk hdk]
  exact hcmp _ _ dk (by omega) x y
 refine (AnyQ.insertionSortCmpFunc L.ins k aE zE enc R.hk R.h1 cf g cb blk off cap a b d w eg hC (S.holds R.hblk R.hH hs.symm) (S.lt R.hblk) hab hb hsz).mono ?_
 rintro e w' ⟨rfl, n, os, rfl⟩
 exact ⟨rfl, _, hI, S.on R.hblk n _ os hI.size⟩
set_option maxHeartbeats 8000000 in
set_option maxRecDepth 1000000 in
theorem stable (L : StL P) (k : Nat) (aE : ∀ w, (isAgg 49).run P w = .ok true w) (zE : ∀ w, (Go.sizeOf 49).run P w = .ok k w) (enc : α → List Value) (cf : α → α → Int) (g : Nat) (cb : Array Value) (blk off cap : Nat) (d0 : Array α) (w0 : World) (hO : SWO (ltOf cf))
 (eg : ∀ args w, (callFunc g args).run P w = .ok (.enter g args) w) (hcmp : CmpLays P g cb enc k cf blk off d0.size w0) (R : RowK enc k w0 blk off d0) (d : Array α) (w : World)
 (hs : d0.size = d.size) (S : SWK enc k w0 blk off d w) (hsz : d.size < 4611686018427387904) :
 Calls P 57 #[.slice (some ⟨blk, off, none⟩) d.size cap, .int .i64 d.size, .func (.func g) #[] cb] w fun e w' => e = .returned (.tuple #[]) ∧ ∃ d', Srt (ltOf cf) 0 d.size d d' ∧ SWK enc k w0 blk off d' w' := by
 have mixed := L.mixed
 have t0 := L.t0
 have a0 := L.a0
 have z0 := L.z0
 have v0 := L.v0
 have t3 := L.t3
 have a3 := L.a3
 have z3 := L.z3
 have v3 := L.v3
 have t4 := L.t4
 have a4 := L.a4
 have z4 := L.z4
 have v4 := L.v4
 have t22 := L.t22
 have a22 := L.a22
 have z22 := L.z22
 have v22 := L.v22
 have t25 := L.t25
 have a25 := L.a25
 have z25 := L.z25
 have v25 := L.v25
 have tu := L.tu
 have au := L.au
 have zu := L.zu
 have vu := L.vu
 have eI : ∀ args w, (callFunc 78 args).run P w = .ok (.enter 78 args) w := enters_of L.fI (by kernel_rfl) rfl
 have eM : ∀ args w, (callFunc 79 args).run P w = .ok (.enter 79 args) w := enters_of L.fM (by kernel_rfl) rfl
 have S0 : Aside (SWK enc k w0 blk off d w) := S
 have HC : Aside _ := hcmp
 clear S hcmp
 obtain ⟨n, hn⟩ : ∃ n, n = d.size := ⟨_, rfl⟩
 have n1 : n ≤ d.size := by omega
 have n2 : d.size ≤ n := by omega
 go_enter L.fT, Try.ntmps57
 go_wp2_with fail
 go_loopg [7, 8] d.size (fun kx s7 s8 wr => ∃ (a b : Nat) (dk : Array α), s7 = .int .i64 a ∧ s8 = .int .i64 b ∧ b ≤ a + 20 ∧ a + 20 ≤ b ∧ a ≤ d.size ∧ d.size - a ≤ kx ∧ dk.size = d.size ∧ Aside (Done (ltOf cf) 20 dk a) ∧ Aside (Pm (ltOf cf) d dk) ∧ Aside (SWK enc k w0 blk off dk wr))
 case atStart => exact ⟨0, 20, d, rfl, rfl, by omega, by omega, Nat.zero_le _, Nat.le_refl _, rfl, .zero, Pm.refl d, S0⟩
 case round =>
  clear S0
  obtain ⟨a, b, dk, rfl, rfl, b1, b2, ha, hkx, hds, HD, HP, S1⟩ := hrel
  by_cases hlt : b ≤ d.size
  · have hltz : (b : Int) ≤ (d.size : Int) := by omega
    have hin := insertion L k aE zE enc cf g cb blk off cap d0 w0 hO eg HC.out R a b dk wr (by omega) S1.out (by omega) (by omega) (by omega)
    rw [hds] at hin
    go_wp2_with fail
    refine hin.mono ?_
    rintro _ w1 ⟨rfl, d1, hI, S2⟩
    go_wp2_with fail
    go_roundg (d.size - b)
    case measure => omega
    case rel => exact ⟨b, b + 20, d1, rfl, by go_num, by omega, by omega, hlt, Nat.le_refl _, hI.size.trans hds, (show Done _ _ _ _ from by
     have e : b = a + 20 := by omega
     have := hI.ord
     rw [e] at this ⊢
     exact .run (HD.out.same fun i hi => hI.out (Or.inl hi)) this), HP.out.next hI hlt, S2⟩
  · have hltz : ¬ (b : Int) ≤ (d.size : Int) := by omega
    have hin := insertion L k aE zE enc cf g cb blk off cap d0 w0 hO eg HC.out R a d.size dk wr (by omega) S1.out ha (by omega) (by omega)
    rw [hds] at hin
    go_wp2_with fail
    refine hin.mono ?_
    rintro _ w1 ⟨rfl, d1, hI, S2⟩
    have H0 : Aside (Runs (ltOf cf) 20 d.size d1 0) := (HD.out.same fun i hi => hI.out (Or.inl hi)).all (Runs.last hI.ord (by omega)) ha
    have P0 : Aside (Pm (ltOf cf) d d1) := HP.out.next hI (Nat.le_refl _)
    have z0' : d1.size = d.size := hI.size.trans hds
    have S3 : Aside (SWK enc k w0 blk off d1 w1) := S2
    clear HD HP S1 hI hin hds S2 hlt hltz hkx b1 b2
    go_wp2_with fail
    go_loopg [6] (d.size + d.size) (fun kx s6 wr => ∃ (bs : Nat) (dk : Array α), s6 = .int .i64 bs ∧ 20 ≤ bs ∧ bs ≤ d.size + d.size + 20 ∧ d.size + d.size - bs ≤ kx ∧ dk.size = d.size ∧ Aside (Runs (ltOf cf) bs d.size dk 0) ∧ Aside (Pm (ltOf cf) d dk) ∧ Aside (SWK enc k w0 blk off dk wr))
    case atStart => exact ⟨20, d1, rfl, Nat.le_refl _, by omega, by omega, z0', H0, P0, S3⟩
    case round =>
     clear S3 H0 P0 z0'
     obtain ⟨bs, dk, rfl, l1, l2, hkx, hds, HR, HP, S1⟩ := hrel
     by_cases hlt : bs < d.size
     · have hltz : (bs : Int) < (d.size : Int) := by omega
       go_wp2_with fail
       go_loopg [7, 8] d.size (fun kx s7 s8 wr => ∃ (a b : Nat) (dk : Array α), s7 = .int .i64 a ∧ s8 = .int .i64 b ∧ b ≤ a + bs + bs ∧ a + bs + bs ≤ b ∧ a ≤ d.size ∧ d.size - a ≤ kx ∧ dk.size = d.size ∧ Aside (Done (ltOf cf) (bs + bs) dk a) ∧ Aside (Runs (ltOf cf) bs d.size dk a) ∧ Aside (Pm (ltOf cf) d dk) ∧ Aside (SWK enc k w0 blk off dk wr))
       case atStart => exact ⟨0, bs + bs, dk, rfl, by go_num, by omega, by omega, Nat.zero_le _, Nat.le_refl _, hds, .zero, HR, HP, S1⟩
       case round =>
        clear HR HP S1 hds
        obtain ⟨a, b, dk, rfl, rfl, b1, b2, ha, hkx2, hds, HD, HR, HP, S1⟩ := hrel
        by_cases hle : b ≤ d.size
        · have hlez : (b : Int) ≤ (d.size : Int) := by omega
          have o1 := HR.out.open (show a < d.size by omega)
          have o2 := o1.2.open (show a + bs < d.size by omega)
          have hme := symMerge L k aE zE enc cf g cb blk off cap d0 w0 hO eg HC.out R (b - a + 1) a (a + bs) b dk wr (by omega) (by omega) S1.out (by omega) (by omega) (by omega) (by omega)
           (by have := o1.1; rwa [show min (a + bs) d.size = a + bs by omega] at this) (by have := o2.1; rwa [show min (a + bs + bs) d.size = b by omega] at this)
          have T : Aside (Runs (ltOf cf) bs d.size dk (a + bs + bs)) := o2.2
          clear o1 o2
          rw [hds, show ((a + bs : Nat) : Int) = (a : Int) + (bs : Int) by omega] at hme
          go_wp2_with fail
          refine hme.mono ?_
          rintro _ w2 ⟨rfl, d2, hI, S2⟩
          go_wp2_with fail
          go_roundg (d.size - b)
          case measure => omega
          case rel => exact ⟨b, b + bs + bs, d2, rfl, by go_num, by omega, by omega, hle, Nat.le_refl _, hI.size.trans hds, (show Done _ _ _ _ from by
           have e : b = a + (bs + bs) := by omega
           have := hI.ord
           rw [e] at this ⊢
           exact .run (HD.out.same fun i hi => hI.out (Or.inl hi)) this), (show Runs _ _ _ _ _ from by
           have e : b = a + bs + bs := by omega
           rw [e]; exact T.out.same fun i hi => hI.out (Or.inr (by omega))), HP.out.next hI hle, S2⟩
        · have hlez : ¬ (b : Int) ≤ (d.size : Int) := by omega
          by_cases hm : a + bs < d.size
          · have hmz : (a : Int) + (bs : Int) < (d.size : Int) := by omega
            have o1 := HR.out.open (show a < d.size by omega)
            have o2 := o1.2.open (show a + bs < d.size by omega)
            have hme := symMerge L k aE zE enc cf g cb blk off cap d0 w0 hO eg HC.out R (d.size - a + 1) a (a + bs) d.size dk wr (by omega) (by omega) S1.out (by omega) (by omega) (by omega) (by omega)
             (by have := o1.1; rwa [show min (a + bs) d.size = a + bs by omega] at this) (by have := o2.1; rwa [show min (a + bs + bs) d.size = d.size by omega] at this)
            clear o1 o2
            rw [hds, show ((a + bs : Nat) : Int) = (a : Int) + (bs : Int) by omega] at hme
            go_wp2_with fail
            refine hme.mono ?_
            rintro _ w2 ⟨rfl, d2, hI, S2⟩
            go_wp2_with fail
            go_roundg (d.size + d.size - (bs + bs))
            case measure => omega
            case rel => exact ⟨bs + bs, d2, by go_num, by omega, by omega, Nat.le_refl _, hI.size.trans hds, (HD.out.same fun i hi => hI.out (Or.inl hi)).all (Runs.last hI.ord (by omega)) ha, HP.out.next hI (Nat.le_refl _), S2⟩
          · have hmz : ¬ (a : Int) + (bs : Int) < (d.size : Int) := by omega
            go_wp2_with fail
            go_roundg (d.size + d.size - (bs + bs))
            case measure => omega
            case rel => exact ⟨bs + bs, dk, by go_num, by omega, by omega, Nat.le_refl _, hds, HD.out.all (by
             by_cases e : a < d.size
             · have o1 := (HR.out.open e).1
               rw [show min (a + bs) d.size = d.size by omega] at o1
               exact Runs.last o1 (by omega)
             · exact .fin (by omega)) ha, HP, S1⟩
     · have hltz : ¬ (bs : Int) < (d.size : Int) := by omega
       go_wp2_with fail
       go_end0
       exact ⟨rfl, dk, HP.out.done (by
        by_cases e : 0 < d.size
        · have o1 := (HR.out.open e).1
          rwa [show min (0 + bs) d.size = d.size by omega] at o1
        · intro i j _ _ h; omega), S1.out⟩
set_option maxHeartbeats 2000000 in
set_option maxRecDepth 100000 in
theorem sortStable (L : StL P) (k : Nat) (aE : ∀ w, (isAgg 49).run P w = .ok true w) (zE : ∀ w, (Go.sizeOf 49).run P w = .ok k w) (enc : α → List Value) (cf : α → α → Int) (g : Nat) (cb : Array Value) (blk off cap : Nat) (d0 : Array α) (w0 : World) (hO : SWO (ltOf cf))
 (eg : ∀ args w, (callFunc g args).run P w = .ok (.enter g args) w) (hcmp : CmpLays P g cb enc k cf blk off d0.size w0) (R : RowK enc k w0 blk off d0) (hsz : d0.size < 4611686018427387904) :
 Calls P 36 #[.slice (some ⟨blk, off, none⟩) d0.size cap, .func (.func g) #[] cb] w0 fun e w' => e = .returned (.tuple #[]) ∧ ∃ d', Srt (ltOf cf) 0 d0.size d0 d' ∧ SWK enc k w0 blk off d' w' := by
 have mixed := L.mixed
 have t0 := L.t0
 have a0 := L.a0
 have z0 := L.z0
 have v0 := L.v0
 have t3 := L.t3
 have a3 := L.a3
 have z3 := L.z3
 have v3 := L.v3
 have t4 := L.t4
 have a4 := L.a4
 have z4 := L.z4
 have v4 := L.v4
 have t22 := L.t22
 have a22 := L.a22
 have z22 := L.z22
 have v22 := L.v22
 have t25 := L.t25
 have a25 := L.a25
 have z25 := L.z25
 have v25 := L.v25
 have tu := L.tu
 have au := L.au
 have zu := L.zu
 have vu := L.vu
 have eT : ∀ args w, (callFunc 57 args).run P w = .ok (.enter 57 args) w := enters_of L.fT (by kernel_rfl) rfl
 have hst := stable L k aE zE enc cf g cb blk off cap d0 w0 hO eg hcmp R d0 w0 rfl (SWK.start R.hH) hsz
 clear hcmp
 go_enter L.fO, Try.ntmps36
 go_wp2_with fail
 refine hst.mono ?_
 rintro _ w1 ⟨rfl, d1, hI, S2⟩
 go_wp2_with fail
 go_end0
 exact ⟨rfl, d1, hI, S2⟩
end
end Go.Proofs.Ytkbhnphkopgccaa.St
namespace Go.Proofs.Ytkbhnphkopgccaa.Pr
open Go.ChangeShapes Go.WideShapes Go.ChangeAt Go.RowKit Go.Sort Go.Proofs Ov Va St
def pcl (p : Pr) : List Value := [.string (tx p.1), .int .i64 p.2.k, .int .i64 p.2.n, .string (tx p.2.s), .int .i64 p.2.x, .int .i64 p.2.y]
def pcells (l : List Pr) : List Value := l.flatMap pcl
theorem pcl_len (p : Pr) : (pcl p).length = 6 := rfl
theorem pcl_one (p : Pr) : ∀ u ∈ pcl p, u.oneCell' = true := by
 intro u hu
 unfold pcl at hu
 simp only [List.mem_cons, List.not_mem_nil, or_false] at hu
 rcases hu with rfl | rfl | rfl | rfl | rfl | rfl <;> rfl
theorem pcells_snoc (l : List Pr) (p : Pr) : pcells (l ++ [p]) = pcells l ++ pcl p := by
 unfold pcells; rw [List.flatMap_append]; simp
theorem pcells_append (l m : List Pr) : pcells (l ++ m) = pcells l ++ pcells m := by
 unfold pcells; rw [List.flatMap_append]
theorem pcells_len (l : List Pr) : (pcells l).length = l.length * 6 := by
 induction l with
 | nil => rfl
 | cons p t ih => show (pcl p ++ pcells t).length = _; rw [List.length_append, ih, pcl_len, List.length_cons]; omega
theorem pcells_one (l : List Pr) : ∀ u ∈ pcells l, u.oneCell' = true := by
 intro u hu
 obtain ⟨p, _, h⟩ := List.mem_flatMap.1 hu
 exact pcl_one p u h
def pd (l : List Pr) (i : Nat) : Pr := (l[i]?).getD pz
theorem arr_at (l : List Pr) (i : Nat) : l.toArray[i]! = pd l i := by
 show l.toArray[i]! = (l[i]?).getD pz
 rw [getElem!_def]
 simp only [List.getElem?_toArray]
 cases l[i]? <;> rfl
theorem pd_at {l : List Pr} {i : Nat} (h : i < l.length) : pd l i = l[i] := by unfold pd; simp [h]
theorem pd_mem {l : List Pr} {i : Nat} (h : i < l.length) : pd l i ∈ l := by rw [pd_at h]; exact List.getElem_mem h
theorem pcells_at (l : List Pr) (i j : Nat) (hi : i < l.length) (hj : j < 6) : (pcells l)[i * 6 + j]? = (pcl (pd l i))[j]? := by
 induction l generalizing i with
 | nil => simp at hi
 | cons n t ih =>
   show (pcl n ++ pcells t)[i * 6 + j]? = _
   cases i with
   | zero =>
     rw [Nat.zero_mul, Nat.zero_add, List.getElem?_append_left (by show j < 6; exact hj)]; rfl
   | succ i =>
     rw [List.getElem?_append_right (by show 6 ≤ _; omega)]
     show (pcells t)[(i + 1) * 6 + j - 6]? = (pcl (pd t i))[j]?
     rw [show (i + 1) * 6 + j - 6 = i * 6 + j by omega]
     exact ih i (by simpa using hi)
def Prs (w : World) (p : Option Addr) (l : List Pr) : Prop :=
 0 < l.length → ∃ B O, p = some ⟨B, O, none⟩ ∧ ∀ i j v, i < l.length → (pcl (pd l i))[j]? = some v → w.cell? ⟨B, O + i * 6 + j, none⟩ = some v
def OwnL (B : Nat) (w : World) (p : Option Addr) (l : List Pr) : Prop :=
 (l = [] ∧ p = none) ∨ ∃ g, p = some ⟨g, 0, none⟩ ∧ B ≤ g ∧ g < w.heap.size ∧ HoldsK pcl 6 w g 0 l.toArray
section
variable {w w' : World} {p : Option Addr} {l : List Pr} {B : Nat}
theorem Prs.nil (w : World) (p : Option Addr) : Prs w p [] := fun h => absurd h (Nat.lt_irrefl 0)
theorem Prs.next (h : Prs w p l) (k : Below w.heap.size w w') : Prs w' p l := fun hn => by
 obtain ⟨B, O, e, hc⟩ := h hn
 exact ⟨B, O, e, fun i j v hi hv => (k.cell (p := ⟨B, O + i * 6 + j, none⟩) (block_lt_of_cell (hc i j v hi hv))).trans (hc i j v hi hv)⟩
theorem Prs.cell {G O : Nat} (h : Prs w (some ⟨G, O, none⟩) l) {i : Nat} (hi : i < l.length) (j : Nat) (v : Value) (hv : (pcl (pd l i))[j]? = some v) : w.cell? ⟨G, O + i * 6 + j, none⟩ = some v := by
 obtain ⟨B', O', e, hc⟩ := h (by omega)
 simp only [Option.some.injEq, Addr.mk.injEq, and_true] at e
 obtain ⟨rfl, rfl⟩ := e
 exact hc i j v hi hv
theorem Prs.shape (h : Prs w p l) (hl : 0 < l.length) : ∃ G O, p = some ⟨G, O, none⟩ := by
 obtain ⟨G, O, e, _⟩ := h hl
 exact ⟨G, O, e⟩
theorem holds_cell {g : Nat} (h : HoldsK pcl 6 w g 0 l.toArray) {i j : Nat} {v : Value} (hi : i < l.length) (hv : (pcl (pd l i))[j]? = some v) : w.cell? ⟨g, i * 6 + j, none⟩ = some v ∧ w.frozen? ⟨g, i * 6 + j, none⟩ = false := by
 obtain ⟨hj, e⟩ := List.getElem?_eq_some_iff.1 hv
 have hj' : j < 6 := hj
 have hc := h.cell (i := i) (c := j) (by simpa using hi) hj'
 rw [arr_at, Nat.zero_add, getElem!_pos (pcl (pd l i)) j hj, e] at hc
 exact hc
theorem OwnL.prs (h : OwnL B w p l) : Prs w p l := fun hl => by
 rcases h with ⟨rfl, _⟩ | ⟨g, rfl, _, _, hh⟩
 · exact absurd hl (Nat.lt_irrefl 0)
 · exact ⟨g, 0, rfl, fun i j v hi hv => by rw [Nat.zero_add]; exact (holds_cell hh hi hv).1⟩
theorem holds_next {g : Nat} {d : Array Pr} (h : HoldsK pcl 6 w g 0 d) (hg : g < w.heap.size) (k : Below w.heap.size w w') : HoldsK pcl 6 w' g 0 d := fun j hj =>
 ⟨(k.cell (p := ⟨g, 0 + j, none⟩) hg).trans (h j hj).1, (k.frozen (p := ⟨g, 0 + j, none⟩) hg).trans (h j hj).2⟩
theorem OwnL.next (h : OwnL B w p l) (k : Below w.heap.size w w') : OwnL B w' p l := by
 rcases h with h | ⟨g, e, hB, hg, hh⟩
 · exact .inl h
 · exact .inr ⟨g, e, hB, Nat.lt_of_lt_of_le hg k.size, holds_next hh hg k⟩
theorem OwnL.lower (h : OwnL B w p l) {C : Nat} (hc : C ≤ B) : OwnL C w p l := by
 rcases h with h | ⟨g, e, hB, hg, hh⟩
 · exact .inl h
 · exact .inr ⟨g, e, Nat.le_trans hc hB, hg, hh⟩
theorem holds_of_own {n : Nat} {g c : Nat} (h : w.ownsRow B 49 6 (.slice (some ⟨g, 0, none⟩) n c) n (pcells l)) (hn : n = l.length) : B ≤ g ∧ g < w.heap.size ∧ HoldsK pcl 6 w g 0 l.toArray := by
 subst hn
 have hg : B ≤ g ∧ g < w.heap.size := h.lt g rfl
 refine ⟨hg.1, hg.2, fun t ht => ?_⟩
 rw [size_flatK] at ht
 have ht' : t < l.length * 6 := by simpa using ht
 have hi : t / 6 < l.length := by omega
 have hj : t % 6 < 6 := Nat.mod_lt _ (by omega)
 have e : t = t / 6 * 6 + t % 6 := by omega
 rw [get_flatK _ _ _ _ ht, arr_at, Nat.zero_add]
 refine ⟨?_, ?_⟩
 · rw [h.cellAt t (by omega)]
   conv => lhs; rw [e]
   rw [pcells_at l _ _ hi hj, getElem!_pos (pcl (pd l (t / 6))) (t % 6) hj]
   exact List.getElem?_eq_getElem hj
 · rcases h.2 with ⟨e0, _⟩ | ⟨g', cap, cur, e0, _, hh, _⟩
   · cases e0
   · injection e0 with e1 _ _
     injection e1 with e1
     injection e1 with e1
     subst e1
     simp [World.frozen?, hh]
theorem below_sort {C : Nat} {w0 : World} {g n : Nat} {d : Array Pr} {os : Array Obj} (h : Below C w0 w) (hg : C ≤ g) (hC : C ≤ w.heap.size) : Below C w0 (sortWorldK pcl 6 w g 0 n d os) := by
 have h1 : Below C w0 (putRowK pcl 6 (Sort.ahead w n) g 0 d) := Lib.below_putRow (enc := id) h hg
 refine ⟨h1.os, h1.tape, h1.output, ?_, fun k hk => ?_⟩
 · unfold sortWorldK; rw [size_grow]; exact Nat.le_trans h1.size (Nat.le_add_right _ _)
 · unfold sortWorldK
   rw [heap_grow_old _ _ (by rw [size_putRowK]; exact Nat.lt_of_lt_of_le hk hC)]
   exact h1.block k hk
end
set_option maxHeartbeats 1000000 in
theorem byKey_any (a b : Pr) (w : World) : Calls Try.prog 37 #[.agg (pcl a).toArray, .agg (pcl b).toArray] w fun e w' => e = .returned (.int .i64 (ck a b)) ∧ ∃ q os, w' = grow (w.drewN q) os := by
 have hc := fun w => cmpS_any (tx a.1) (tx b.1) w
 rw [tx_list, tx_list] at hc
 unfold pcl
 generalize tx a.1 = ka at *
 generalize tx b.1 = kb at *
 generalize hk : cS a.1 b.1 = r at *
 have hr : ck a b = r := hk
 rw [hr]
 clear hr hk
 go_enter Try.func37, Try.ntmps37
 go_wp2_with (fail)
 refine (hc _).mono ?_
 rintro e w1 ⟨rfl, rfl⟩
 go_wp2_with (fail)
 go_ret
 exact ⟨rfl, 0, #[_, _], by rw [alloc_eq_grow, alloc_eq_grow, grow_grow]; rfl⟩
theorem byKey_lays (blk off size : Nat) (w : World) : CmpLays Try.prog 37 #[] pcl 6 ck blk off size w := fun _ _ _ _ x y => byKey_any x y _
theorem ltOf_ck : ltOf ck = kl := funext fun a => funext fun b => ck_kl a b
theorem sort_own (l : List Pr) (g c : Nat) (w : World) (hg : g < w.heap.size) (h : HoldsK pcl 6 w g 0 l.toArray) (hl : l.length < 4611686018427387904) :
 Calls Try.prog 36 #[.slice (some ⟨g, 0, none⟩) l.length c, .func (.func 37) #[] #[]] w fun e w' => e = .returned (.tuple #[]) ∧ HoldsK pcl 6 w' g 0 (sr l).toArray ∧ g < w'.heap.size ∧
  ∀ (C : Nat) (w0 : World), Below C w0 w → C ≤ g → Below C w0 w' := by
 have R : RowK pcl 6 w g 0 l.toArray := ⟨pcl_len, pcl_one, h, hg⟩
 have hz : l.toArray.size = l.length := by simp
 have hs := sortStable stL 6 (fun w => by kernel_rfl) (fun w => by kernel_rfl) pcl ck 37 #[] g 0 c l.toArray w (by rw [ltOf_ck]; exact swo) (enters_of Try.func37 (by kernel_rfl) rfl) (byKey_lays g 0 _ w) R (by rw [hz]; exact hl)
 rw [hz] at hs
 refine hs.mono ?_
 rintro e w' ⟨rfl, d', hd, S⟩
 rw [ltOf_ck, ← hz] at hd
 have e1 : d' = (sr l).toArray := by rw [← sr_of_srt hd]
 subst e1
 refine ⟨rfl, S.holds hg h (by simp [sr_len]), S.lt hg, fun C w0 hb hC => ?_⟩
 obtain ⟨n, os, rfl⟩ := S
 exact below_sort hb hC (by omega)
end Go.Proofs.Ytkbhnphkopgccaa.Pr
namespace Go.Proofs.Ytkbhnphkopgccaa.Pr
open Go.ChangeShapes Go.WideShapes Go.ChangeAt Go.RowKit Go.Sort Go.Shelf Go.Proofs Ov Va St
theorem infoP : (Try.prog.info? 49).map (fun i => (i.zero, i.size, i.bytes)) = some (some (.agg (pcl pz).toArray), 6, 64) := by kernel_rfl
def growRen : Ren := ⟨fun | 4 => 56 | n => n, fun | 0 => 0 | 3 => 3 | 4 => 4 | 9 => 9 | 20 => 20 | 22 => 22 | 25 => 49 | n => n, fun n => n⟩
theorem growLays : Lays8.n4 Try.prog growRen :=
 { mixed := by kernel_rfl
   f4 := ⟨Try.f56.name, by kernel_rfl, by kernel_rfl⟩
   t0 := by kernel_rfl
   a0 := fun _ => by kernel_rfl
   z0 := fun _ => by kernel_rfl
   v0 := fun _ => by kernel_rfl
   t3 := by kernel_rfl
   a3 := fun _ => by kernel_rfl
   z3 := fun _ => by kernel_rfl
   v3 := fun _ => by kernel_rfl
   t4 := by kernel_rfl
   a4 := fun _ => by kernel_rfl
   z4 := fun _ => by kernel_rfl
   v4 := fun _ => by kernel_rfl
   t9 := by kernel_rfl
   a9 := fun _ => by kernel_rfl
   z9 := fun _ => by kernel_rfl
   v9 := fun _ => by kernel_rfl
   t20 := by kernel_rfl
   a20 := fun _ => by kernel_rfl
   z20 := fun _ => by kernel_rfl
   v20 := fun _ => by kernel_rfl
   t22 := by kernel_rfl
   a22 := fun _ => by kernel_rfl
   z22 := fun _ => by kernel_rfl
   v22 := fun _ => by kernel_rfl }
theorem grow_any (n : Nat) (w : World) (hn : n ≤ 1000000) : Calls Try.prog 56 #[.slice none 0 0, .int .i64 n] w fun e w' =>
 ∃ v, e = .returned v ∧ w'.ownsRow w.heap.size 49 6 v 0 [] ∧ Below w.heap.size w w' := by
 by_cases h0 : n = 0
 · subst h0
   exact (Any8.slices_Grow_room growLays none 0 0 0 w (by omega) (by omega) (by omega) (by omega)).mono fun _ w' ⟨he, hw⟩ => by
    subst hw
    exact ⟨_, he, ⟨rfl, .inl ⟨rfl, rfl⟩⟩, Below.refl _ _⟩
 · obtain ⟨i0, hi0, hi1, hi2, hi3⟩ := info_parts infoP
   refine (Any8.slices_Grow_grow growLays i0 _ hi0 hi1 (by rw [hi2]; decide) none 0 0 n [] w (by omega) (by omega) (by rw [hi3]; omega) (by omega) (by simp) (fun _ => rfl) (fun a h => by cases h)).mono ?_
   rintro e w' ⟨rfl, rfl⟩
   have hg := grownCap_ge w (0 + n) 0 49
   have hm := grownCap_le_maxLen w (0 + n) 0 49 (by unfold maxLen; omega)
   obtain ⟨G, hG⟩ : ∃ G, G = grownCap w (0 + n) 0 49 := ⟨_, rfl⟩
   have e25 : growRen.t 25 = 49 := rfl
   rw [e25, ← hG]
   rw [← hG] at hg hm
   obtain ⟨cs, hcs⟩ : ∃ cs, cs = ([] : List Value).toArray ++ Builtin.zeroCells (Value.agg (pcl pz).toArray).cells (0 + n - 0) ++ Builtin.zeroCells (Value.agg (pcl pz).toArray).cells (G - (0 + n)) := ⟨_, rfl⟩
   have hsz : cs.size = G * 6 := by
    rw [hcs]
    simp [Builtin.zeroCells, Value.cells, pcl]
    omega
   rw [← hcs]
   have h1 : (w.drew.alloc (.cells cs 49)).ownsRow w.heap.size 49 6 (.slice (some ⟨w.heap.size, 0, none⟩) 0 G) 0 [] :=
    ⟨rfl, .inr ⟨w.heap.size, G, cs, rfl, Nat.le_refl _, (by show (w.heap.push _)[w.heap.size]? = _; simp), Nat.zero_le _, hm, hsz, by simp⟩⟩
   have hB : Below w.heap.size w w.drew := below_drewN (Below.refl _ w) 1
   exact ⟨_, rfl, h1, hB.alloc (Nat.le_refl _) _⟩
abbrev Part := Option Addr × Nat × List Pr
instance : Inhabited Part := ⟨(none, 0, [])⟩
def pv (q : Part) : Value := .slice q.1 q.2.2.length q.2.1
def PIn (w : World) (q : Part) : Prop := Prs w q.1 q.2.2 ∧ (q.1 = none → q.2.2 = [] ∧ q.2.1 = 0)
theorem PIn.next {w w' : World} {q : Part} (h : PIn w q) (k : Below w.heap.size w w') : PIn w' q := ⟨h.1.next k, h.2⟩
def Lls (w : World) (A : Option Addr) (qs : List Part) : Prop :=
 ∃ B O, A = some ⟨B, O, none⟩ ∧ (∀ i, i < qs.length → w.cell? ⟨B, O + i, none⟩ = some (pv (qs[i]?.getD default))) ∧ ∀ i, i < qs.length → PIn w (qs[i]?.getD default)
def al (qs : List Part) (i : Nat) : List Pr := (qs.take i).flatMap (·.2.2)
theorem al_succ {qs : List Part} {i : Nat} (h : i < qs.length) : al qs (i + 1) = al qs i ++ (qs[i]?.getD default).2.2 := by
 unfold al
 rw [List.take_succ_eq_append_getElem h, List.flatMap_append]
 simp [h]
theorem al_le (qs : List Part) (i : Nat) : (al qs i).length ≤ (al qs qs.length).length := by
 unfold al
 rw [List.take_length]
 conv => rhs; rw [← List.take_append_drop i qs]
 rw [List.flatMap_append, List.length_append]; omega
theorem own_keep {w w' : World} {base size n : Nat} {e : TypeId} {v : Value} {xs : List Value} (h : w.ownsRow base e size v n xs) (k : Below w.heap.size w w') : w'.ownsRow base e size v n xs :=
 h.kept (row := none) ⟨k.os, k.tape, k.output, k.size, fun i hi _ => k.block i hi⟩ (by cases v.ownBlock <;> simp)
theorem slice_of {w : World} {base n : Nat} {e : TypeId} {v : Value} {xs : List Value} (h : w.ownsRow base e 6 v n xs) : ∃ A c, v = .slice A n c ∧ (A = none → n = 0 ∧ c = 0) := by
 rcases h.2 with ⟨rfl, rfl⟩ | ⟨g, cap, cur, rfl, _⟩
 · exact ⟨none, 0, rfl, fun _ => ⟨rfl, rfl⟩⟩
 · exact ⟨_, cap, rfl, fun h => by cases h⟩
set_option maxHeartbeats 2000000 in
set_option maxRecDepth 100000 in
theorem concat_any (A : Option Addr) (c : Nat) (qs : List Part) (w : World) (h : Lls w A qs) (hq : qs.length ≤ 1000) (hT : (al qs qs.length).length ≤ 1000000) :
 Calls Try.prog 35 #[.slice A qs.length c] w fun e w' => ∃ v, e = .returned v ∧ w'.ownsRow w.heap.size 49 6 v (al qs qs.length).length (pcells (al qs qs.length)) ∧ Below w.heap.size w w' := by
 obtain ⟨B, O, rfl, hc, hP⟩ := h
 have HC := Lib.hid hc; have HP := Lib.hid hP
 have HT := Lib.hid hT
 clear hc hP
 go_enter Try.func35, Try.ntmps35
 go_wp2_with (fail)
 go_loopg [3, 11] qs.length (fun kx s3 s11 wr => ∃ (i x : Nat), i ≤ qs.length ∧ qs.length - i ≤ kx ∧ s3 = .int .i64 x ∧ s11 = .int .i64 i ∧ Hid (x = (al qs i).length) ∧ w = wr)
 case atStart => exact ⟨0, 0, Nat.zero_le _, by omega, rfl, rfl, Lib.hid rfl, rfl⟩
 case round =>
  obtain ⟨i, x, hi, hkx, rfl, rfl, HX, rfl⟩ := hrel
  by_cases hlt : i < qs.length
  · have hltz : (i : Int) < (qs.length : Int) := by omega
    have ci := HC.out i hlt
    have HS := Lib.hid (al_succ hlt)
    have hle := al_le qs (i + 1)
    have hx : x + (qs[i]?.getD default).2.2.length ≤ 1000000 := by
     have := congrArg List.length HS.out
     rw [List.length_append, ← HX.out] at this
     have := HT.out
     omega
    clear hle
    unfold pv at ci
    obtain ⟨y, hy⟩ : ∃ y, y = (qs[i]?.getD default).2.2.length := ⟨_, rfl⟩
    have HY := Lib.hid hy
    rw [← hy] at ci hx
    clear hy
    generalize (qs[i]?.getD default).1 = Ai at ci
    generalize (qs[i]?.getD default).2.1 = gi at ci
    have hneg : ¬ ((x : Int) + (y : Int) < 0) := by omega
    go_wp2_with (fail)
    go_roundg (qs.length - (i + 1))
    case measure => omega
    case rel => exact ⟨i + 1, x + y, by omega, Nat.le_refl _, by go_num, by go_num, Lib.hid (by rw [HS.out, List.length_append, ← HX.out, HY.out]), rfl⟩
  · have hltz : ¬ (i : Int) < (qs.length : Int) := by omega
    obtain rfl : i = qs.length := by omega
    have hx : x ≤ 1000000 := by have := HX.out; have := HT.out; omega
    clear HX
    go_wp2_with (fail)
    refine (grow_any x w hx).mono ?_
    rintro e w1 ⟨v0, rfl, hown, hb⟩
    have HO := Lib.hid hown; have HB := Lib.hid hb
    clear hown hb
    obtain ⟨i0, hi0, hi1, hi2, hi3⟩ := info_parts infoP
    have HI0 := Lib.hid hi0; have HI1 := Lib.hid hi1; have HI2 := Lib.hid hi2; have HI3 := Lib.hid hi3
    clear hi0 hi1 hi2 hi3
    obtain ⟨A0, c0, rfl, _⟩ := slice_of HO.out
    go_wp2_with (fail)
    go_loopg [6, 27] qs.length (fun kx s6 s27 w2 => ∃ (j : Nat), j ≤ qs.length ∧ qs.length - j ≤ kx ∧ s27 = .int .i64 j ∧ Hid (w2.ownsRow w.heap.size 49 6 s6 (al qs j).length (pcells (al qs j))) ∧ Hid (Below w.heap.size w w2))
    case atStart => exact ⟨0, Nat.zero_le _, by omega, rfl, HO, HB⟩
    case round =>
     clear HO HB
     obtain ⟨j, hj, hkj, rfl, HO, HB⟩ := hrel
     by_cases hlj : j < qs.length
     · have hljz : (j : Int) < (qs.length : Int) := by omega
       have cj0 := HC.out j hlj
       have cj := (HB.out.cell (p := ⟨B, O + j, none⟩) (block_lt_of_cell cj0)).trans cj0
       clear cj0
       have hPj := (HP.out j hlj).next HB.out
       have HS := Lib.hid (al_succ hlj)
       have hle := al_le qs (j + 1)
       rw [HS.out, List.length_append] at hle
       have h9 := Nat.le_trans hle HT.out
       clear hle
       unfold pv at cj
       obtain ⟨A1, c1, hsl, _⟩ := slice_of HO.out
       subst hsl
       generalize hqj : qs[j]?.getD default = q at cj hPj HS h9
       obtain ⟨Aj, gj, lj⟩ := q
       have HQ := Lib.hid hqj; clear hqj
       dsimp only at cj hPj h9
       cases Aj with
       | none =>
         obtain ⟨hn1, hn2⟩ := hPj.2 rfl
         dsimp only at hn1 hn2
         subst hn1; subst hn2
         clear hPj
         go_wp2_with (at_builtin; refine wpList_append_own_none rfl _ _ 22 rfl w.heap.size 49 i0 6 Try.underlying22 HI0.out _ _ _ rfl HO.out rfl ?_)
         go_roundg (qs.length - (j + 1))
         case measure => omega
         case rel => exact ⟨j + 1, by omega, Nat.le_refl _, by go_num, Lib.hid (by rw [HS.out, List.append_nil]; exact HO.out), HB⟩
       | some ad =>
         have HPJ := Lib.hid hPj.1
         clear hPj
         go_wp2_with (at_builtin; refine wpList_append_own _ rfl _ _ 22 rfl w.heap.size 49 i0 (.agg (pcl pz).toArray) 6 64 Try.underlying22 HI0.out HI1.out HI2.out HI3.out rfl (by decide) _ _ _ rfl HO.out ad lj.length gj (pcells lj) rfl (pcells_len lj) ?c1 (pcells_one lj) ?c3 ?c4 ?c5 ?_)
         case c1 =>
          intro t u ht
          have hlt' : t < lj.length * 6 := by have := (List.getElem?_eq_some_iff.1 ht).1; rwa [pcells_len] at this
          obtain ⟨G, O', e, hcc⟩ := HPJ.out (by omega)
          obtain rfl := Option.some.inj e
          have e1 : t = t / 6 * 6 + t % 6 := by omega
          rw [e1, pcells_at lj _ _ (by omega) (Nat.mod_lt _ (by omega))] at ht
          have := hcc (t / 6) (t % 6) u (by omega) ht
          rw [Addr.add_lit, e1, ← Nat.add_assoc]
          exact this
         case c3 => unfold maxLen; omega
         case c4 => omega
         case c5 => exact HB.out.size
         intro v' w3 hown' hgrow _
         have HN := Lib.hid hown'
         have HB3 := Lib.hid (HB.out.grown hgrow HB.out.size (fun g e => (HO.out.lt g e).1))
         clear hown' hgrow
         go_wp2_with (fail)
         go_roundg (qs.length - (j + 1))
         case measure => omega
         case rel => exact ⟨j + 1, by omega, Nat.le_refl _, by go_num, Lib.hid (by rw [HS.out, List.length_append, pcells_append]; exact HN.out), HB3⟩
     · have hljz : ¬ (j : Int) < (qs.length : Int) := by omega
       obtain rfl : j = qs.length := by omega
       obtain ⟨A1, c1, hsl, _⟩ := slice_of HO.out
       subst hsl
       go_wp2_with (fail)
       go_ret
       exact ⟨_, rfl, HO.out, HB.out⟩
end Go.Proofs.Ytkbhnphkopgccaa.Pr
namespace Go.Proofs.Ytkbhnphkopgccaa.Va
open Go.ChangeShapes Go.WideShapes Go.ChangeAt Go.RowKit Ov Ga
theorem over_id {w : World} {P : Program} {f : FuncId} {args : Array Value} {v : Value} (q : Over w) (h : Calls P f args q.val fun e w' => e = .returned v ∧ q.val = w') :
 Calls P f args q.val fun e w' => e = .returned v ∧ ∃ q' : Over w, w' = q'.val := h.mono fun _ _ ⟨he, hw⟩ => ⟨he, q, hw.symm⟩
def orl : List Int → Int
 | [] => 0
 | a :: t => if a ≠ 0 then a else orl t
theorem orl4 (a b c d : Int) : orl [a, b, c, d] = or4 a b c d := by
 unfold or4; simp only [orl]
 split
 · rfl
 · split
   · rfl
   · split
     · rfl
     · split
       · rfl
       · omega
theorem orl_drop {l : List Int} {k : Nat} (h : k < l.length) : orl (l.drop k) = if l[k] ≠ 0 then l[k] else orl (l.drop (k + 1)) := by
 rw [List.drop_eq_getElem_cons h]; rfl
set_option maxHeartbeats 1000000 in
theorem or_any (l : List Int) (b : Nat) (w : World) (h : Blk w b (l.map fun a => Value.int .i64 a)) (hl : l.length ≤ 4) : Calls Try.prog 70 #[.slice (some ⟨b, 0, none⟩) l.length l.length] w fun e w' => e = .returned (.int .i64 (orl l)) ∧ w = w' := by
 have H := Lib.hid h; clear h
 obtain ⟨n, hn⟩ : ∃ n, l.length = n := ⟨_, rfl⟩
 rw [hn] at hl ⊢
 have HN := Lib.hid hn; clear hn
 go_enter Try.func70, Try.ntmps70
 go_wp2_with (fail)
 go_loop [5, 8] (fun _ i => ∃ k : Nat, k ≤ n ∧ i = .int .i64 k ∧ orl l = orl (l.drop k)) (fun _ i => n - (intOf i).toNat)
 case atStart => exact ⟨0, Nat.zero_le _, rfl, by simp⟩
 case round =>
  obtain ⟨k, hk, rfl, hd⟩ := hrel
  have HD := Lib.hid hd; clear hd
  by_cases hlt : k < n
  · have hkl : k < l.length := by have := HN.out; omega
    obtain ⟨a, ha⟩ : ∃ a, l[k] = a := ⟨_, rfl⟩
    have HS : Hid (orl (l.drop k) = if a ≠ 0 then a else orl (l.drop (k + 1))) := by
     show _ = _
     rw [orl_drop hkl, ha]
    have hc : w.cell? ⟨b, k, none⟩ = some (.int .i64 a) := H.out.c k _ (by rw [List.getElem?_map, List.getElem?_eq_getElem hkl, ha]; rfl)
    clear ha hkl
    by_cases hz : a = 0
    · subst hz
      go_wp2_with (fail)
      go_round
      case rel => exact ⟨k + 1, by omega, by go_num, by rw [HD.out, HS.out]; rfl⟩
      case measure => simp [intOf]; omega
    · have hne : (a != 0) = true := bne_iff_ne.2 hz
      have HZ := Lib.hid hz; clear hz
      go_wp2_with (fail)
      go_ret
      exact ⟨ret_int (by rw [HD.out, HS.out, if_pos HZ.out]), rfl⟩
  · have HS : Hid (orl (l.drop k) = 0) := by
     show _ = _
     rw [List.drop_of_length_le (by have := HN.out; omega)]; rfl
    go_wp2_with (fail)
    go_ret
    exact ⟨ret_int (by rw [HD.out, HS.out]), rfl⟩
set_option maxHeartbeats 1000000 in
theorem spots_any (x y u v : Int) (w : World) : Calls Try.prog 94 #[.agg #[.int .i64 x, .int .i64 y], .agg #[.int .i64 u, .int .i64 v]] w (Gives (.int .i64 (cP x y u v)) w) := by
 have H1 := Lib.hid (less_any x y u v)
 have H2 := Lib.hid (less_any u v x y)
 have he : cP x y u v = if decide (x < u ∨ x = u ∧ y < v) = true then -1 else if decide (u < x ∨ u = x ∧ v < y) = true then 1 else 0 := by
  unfold cP; simp only [decide_eq_true_eq]
 rw [he]; clear he
 generalize decide (x < u ∨ x = u ∧ y < v) = p at *
 generalize decide (u < x ∨ u = x ∧ v < y) = q at *
 cases p
 · cases q
   · go_enter Try.func94, Try.ntmps94
     go_wp2_with (fail)
     refine (H1.out _).mono ?_
     rintro e w1 ⟨rfl, hb⟩
     have HB := Lib.hid (Below.next (box2 w _ _) hb)
     have D1 := ((Blk.made w 45 [.int .i64 x, .int .i64 y] rfl).old (.cells #[.int .i64 u, .int .i64 v] 45)).next hb
     have D2 := (Blk.made (w.alloc (.cells #[.int .i64 x, .int .i64 y] 45)) 45 [.int .i64 u, .int .i64 v] (World.size_alloc _ _)).next hb
     have c0 := D1.c 0 _ rfl
     have c1 := D1.c 1 _ rfl
     have c2 := D2.c 0 _ rfl
     have c3 := D2.c 1 _ rfl
     clear hb D1 D2
     go_wp2_with (fail)
     clear c0 c1 c2 c3
     refine (H2.out _).mono ?_
     rintro e w2 ⟨rfl, hb⟩
     have HB2 := Lib.hid (Below.next HB.out hb)
     clear hb
     go_wp2_with (fail)
     go_ret
     exact ⟨rfl, HB2.out⟩
   · go_enter Try.func94, Try.ntmps94
     go_wp2_with (fail)
     refine (H1.out _).mono ?_
     rintro e w1 ⟨rfl, hb⟩
     have HB := Lib.hid (Below.next (box2 w _ _) hb)
     have D1 := ((Blk.made w 45 [.int .i64 x, .int .i64 y] rfl).old (.cells #[.int .i64 u, .int .i64 v] 45)).next hb
     have D2 := (Blk.made (w.alloc (.cells #[.int .i64 x, .int .i64 y] 45)) 45 [.int .i64 u, .int .i64 v] (World.size_alloc _ _)).next hb
     have c0 := D1.c 0 _ rfl
     have c1 := D1.c 1 _ rfl
     have c2 := D2.c 0 _ rfl
     have c3 := D2.c 1 _ rfl
     clear hb D1 D2
     go_wp2_with (fail)
     clear c0 c1 c2 c3
     refine (H2.out _).mono ?_
     rintro e w2 ⟨rfl, hb⟩
     have HB2 := Lib.hid (Below.next HB.out hb)
     clear hb
     go_wp2_with (fail)
     go_ret
     exact ⟨rfl, HB2.out⟩
 · go_enter Try.func94, Try.ntmps94
   go_wp2_with (fail)
   refine (H1.out _).mono ?_
   rintro e w1 ⟨rfl, hb⟩
   have HB := Lib.hid (Below.next (box2 w _ _) hb)
   have D1 := ((Blk.made w 45 [.int .i64 x, .int .i64 y] rfl).old (.cells #[.int .i64 u, .int .i64 v] 45)).next hb
   have D2 := (Blk.made (w.alloc (.cells #[.int .i64 x, .int .i64 y] 45)) 45 [.int .i64 u, .int .i64 v] (World.size_alloc _ _)).next hb
   have c0 := D1.c 0 _ rfl
   have c1 := D1.c 1 _ rfl
   have c2 := D2.c 0 _ rfl
   have c3 := D2.c 1 _ rfl
   clear hb D1 D2
   go_wp2_with (fail)
   go_ret
   exact ⟨rfl, HB.out⟩
set_option maxHeartbeats 4000000 in
theorem order_val (k n x y k' n' x' y' : Int) (s s' : ByteArray) (w : World) : Calls Try.prog 86 #[.agg #[.int .i64 k, .int .i64 n, .string s, .int .i64 x, .int .i64 y], .agg #[.int .i64 k', .int .i64 n', .string s', .int .i64 x', .int .i64 y']] w
 (Gives (.int .i64 (ord ⟨k, n, s.data.toList, x, y⟩ ⟨k', n', s'.data.toList, x', y'⟩)) w) := by
 have HI := Lib.hid cmpI_any
 have HS := Lib.hid (cmpS_any s s')
 have HP := Lib.hid (spots_any x y x' y')
 have HE : Hid (ord ⟨k, n, s.data.toList, x, y⟩ ⟨k', n', s'.data.toList, x', y'⟩ = orl [cI k k', cI n n', cS s.data.toList s'.data.toList, cP x y x' y']) := by
  show _ = _
  rw [orl4]; rfl
 generalize cS s.data.toList s'.data.toList = c3 at *
 generalize cP x y x' y' = c4 at *
 go_enter Try.func86, Try.ntmps86
 go_wp2_with (fail)
 have kb := Lib.hid (box2 w (.cells #[.int .i64 k, .int .i64 n, .string s, .int .i64 x, .int .i64 y] 47) (.cells #[.int .i64 k', .int .i64 n', .string s', .int .i64 x', .int .i64 y'] 47))
 have D := (Blk.made w 47 (vcs k n s x y) rfl).old (.cells #[.int .i64 k', .int .i64 n', .string s', .int .i64 x', .int .i64 y'] 47)
 have E := Blk.made (w.alloc (.cells #[.int .i64 k, .int .i64 n, .string s, .int .i64 x, .int .i64 y] 47)) 47 (vcs k' n' s' x' y') (World.size_alloc _ _)
 change Blk ((w.alloc (.cells #[.int .i64 k, .int .i64 n, .string s, .int .i64 x, .int .i64 y] 47)).alloc (.cells #[.int .i64 k', .int .i64 n', .string s', .int .i64 x', .int .i64 y'] 47)) w.heap.size _ at D
 change Blk ((w.alloc (.cells #[.int .i64 k, .int .i64 n, .string s, .int .i64 x, .int .i64 y] 47)).alloc (.cells #[.int .i64 k', .int .i64 n', .string s', .int .i64 x', .int .i64 y'] 47)) (w.heap.size + 1) _ at E
 generalize (w.alloc (.cells #[.int .i64 k, .int .i64 n, .string s, .int .i64 x, .int .i64 y] 47)).alloc (.cells #[.int .i64 k', .int .i64 n', .string s', .int .i64 x', .int .i64 y'] 47) = v at *
 have d0 := fun r : Over v => (D.over r).v0
 have d1 := fun r : Over v => (D.over r).v1
 have d2 := fun r : Over v => (D.over r).v2
 have d3 := fun r : Over v => (D.over r).v3
 have d4 := fun r : Over v => (D.over r).v4
 have e0 := fun r : Over v => (E.over r).v0
 have e1 := fun r : Over v => (E.over r).v1
 have e2 := fun r : Over v => (E.over r).v2
 have e3 := fun r : Over v => (E.over r).v3
 have e4 := fun r : Over v => (E.over r).v4
 clear D E
 refine wp_over_tail 20 (by kernel_rfl) (by kernel_rfl) ?_
 simp only [List.take_succ_cons, List.take_zero, List.drop_succ_cons, List.drop_zero]
 repeat (go_big_quiet_step (first | fail | with_reducible exact over_id _ (HI.out _ _ _) | with_reducible exact over_id _ (HS.out _) | with_reducible exact over_gives _ (HP.out _)))
 refine wpQuiet_nil ?_
 rintro w2 ⟨⟨w2, hb⟩, rfl⟩
 have HB := Lib.hid (Below.next kb.out hb)
 clear hb kb d0 d1 d2 d3 d4 e0 e1 e2 e3 e4
 go_wp2_with (fail)
 refine (or_any [cI k k', cI n n', c3, c4] w2.heap.size _ (Blk.made w2 3 [.int .i64 (cI k k'), .int .i64 (cI n n'), .int .i64 c3, .int .i64 c4] rfl) (Nat.le_refl _)).mono ?_
 rintro e w' ⟨rfl, rfl⟩
 have HB2 := Lib.hid (Below.next HB.out (box1 w2 (.cells #[.int .i64 (cI k k'), .int .i64 (cI n n'), .int .i64 c3, .int .i64 c4] 3)))
 go_wp2_with (fail)
 go_ret
 exact ⟨ret_int HE.out.symm, HB2.out⟩
end Go.Proofs.Ytkbhnphkopgccaa.Va
namespace Go.Proofs.Ytkbhnphkopgccaa.Jo
open Go.ChangeShapes Go.WideShapes Go.ChangeAt Go.RowKit Ov Ga Va
theorem five {w : World} {b : Nat} {x0 x1 x2 x3 x4 : Value} (h : Blk w b [x0, x1, x2, x3, x4]) : w.cell? ⟨b, 0, none⟩ = some x0 ∧ w.cell? ⟨b, 1, none⟩ = some x1 ∧ w.cell? ⟨b, 2, none⟩ = some x2 ∧ w.cell? ⟨b, 3, none⟩ = some x3 ∧ w.cell? ⟨b, 4, none⟩ = some x4 := ⟨h.c 0 _ rfl, h.c 1 _ rfl, h.c 2 _ rfl, h.c 3 _ rfl, h.c 4 _ rfl⟩
theorem thaw {w : World} {b : Nat} {x0 x1 x2 x3 x4 : Value} (h : Blk w b [x0, x1, x2, x3, x4]) : w.frozen? ⟨b, 0, none⟩ = false ∧ w.frozen? ⟨b, 1, none⟩ = false ∧ w.frozen? ⟨b, 2, none⟩ = false ∧ w.frozen? ⟨b, 3, none⟩ = false ∧ w.frozen? ⟨b, 4, none⟩ = false := ⟨h.f 0 _ rfl, h.f 1 _ rfl, h.f 2 _ rfl, h.f 3 _ rfl, h.f 4 _ rfl⟩
theorem fin5 {P : World → Prop} {lo : Nat} {W w : World} {b : Nat} {x0 x1 x2 x3 x4 : Value} (h : Blk w b [x0, x1, x2, x3, x4]) (hb : Below lo W w) (hlo : lo ≤ b) (a0 a1 a2 a3 a4 : Value)
 (k : ∀ w', Blk w' b [a0, a1, a2, a3, a4] → Below lo W w' → (∀ c ys, c ≠ b → Blk w c ys → Blk w' c ys) → P w') : P (((((w.setCell ⟨b, 0, none⟩ a0).setCell ⟨b, 1, none⟩ a1).setCell ⟨b, 2, none⟩ a2).setCell ⟨b, 3, none⟩ a3).setCell ⟨b, 4, none⟩ a4) :=
 k _ (((((h.set 0 a0).set 1 a1).set 2 a2).set 3 a3).set 4 a4) (((((hb.setCell hlo _).setCell hlo _).setCell hlo _).setCell hlo _).setCell hlo _) fun _ _ hc g => ((((g.put (Ne.symm hc) 0 a0).put (Ne.symm hc) 1 a1).put (Ne.symm hc) 2 a2).put (Ne.symm hc) 3 a3).put (Ne.symm hc) 4 a4
theorem fin2 {P : World → Prop} {lo : Nat} {W w : World} {b : Nat} {x0 x1 : Value} (h : Duo w b x0 x1) (hb : Below lo W w) (hlo : lo ≤ b) (a0 a1 : Value)
 (k : ∀ w', Duo w' b a0 a1 → Below lo W w' → P w') : P ((w.setCell ⟨b, 0, none⟩ a0).setCell ⟨b, 1, none⟩ a1) := k _ (h.set a0 a1) ((hb.setCell hlo _).setCell hlo _)
theorem two_boxes (w : World) (t : TypeId) (xs ys zs : List Value) : Blk (((w.alloc (.cells xs.toArray t)).alloc (.cells ys.toArray t)).alloc (.cells zs.toArray t)) w.heap.size xs ∧
 Blk (((w.alloc (.cells xs.toArray t)).alloc (.cells ys.toArray t)).alloc (.cells zs.toArray t)) (w.heap.size + 1) ys ∧ Blk (((w.alloc (.cells xs.toArray t)).alloc (.cells ys.toArray t)).alloc (.cells zs.toArray t)) (w.heap.size + 1 + 1) zs ∧
 Below w.heap.size w (((w.alloc (.cells xs.toArray t)).alloc (.cells ys.toArray t)).alloc (.cells zs.toArray t)) :=
 ⟨((Blk.made w t xs rfl).old _).old _, (Blk.made _ t ys (World.size_alloc _ _)).old _, Blk.made _ t zs (by simp [World.size_alloc]), box3 _ _ _ _⟩
set_option maxHeartbeats 1000000 in
theorem choose_b (c : ByteArray) (k n x y k' n' x' y' : Int) (s s' : ByteArray) (hs : s'.size ≤ 281474976710656) (w : World) (h : (decide (ord ⟨k, n, s.data.toList, x, y⟩ ⟨k', n', s'.data.toList, x', y'⟩ < 0) == (c.toList == [109, 97, 120])) = true) :
 Calls Try.prog 75 #[.string c, .agg #[.int .i64 k, .int .i64 n, .string s, .int .i64 x, .int .i64 y], .agg #[.int .i64 k', .int .i64 n', .string s', .int .i64 x', .int .i64 y']] w (Gives (.agg #[.int .i64 k', .int .i64 n', .string s', .int .i64 x', .int .i64 y']) w) := by
 have HO := Lib.hid (order_val k n x y k' n' x' y' s s')
 have HC := Lib.hid (fun w1 => clone_any s' w1 hs)
 generalize ord ⟨k, n, s.data.toList, x, y⟩ ⟨k', n', s'.data.toList, x', y'⟩ = o at *
 obtain ⟨D1, D2, D3, hb0⟩ := two_boxes w 47 [.int .i64 k, .int .i64 n, .string s, .int .i64 x, .int .i64 y] [.int .i64 k', .int .i64 n', .string s', .int .i64 x', .int .i64 y'] [.int .i64 0, .int .i64 0, .string ⟨#[]⟩, .int .i64 0, .int .i64 0]
 have H1 := Lib.hid D1; have H2 := Lib.hid D2; have H3 := Lib.hid D3; have HB := Lib.hid hb0; clear D1 D2 D3 hb0
 go_enter Try.func75, Try.ntmps75
 go_wp2_with (fail)
 refine (HO.out _).mono ?_
 rintro e w1 ⟨rfl, hb⟩
 replace H1 := Lib.hid (H1.out.next hb); replace H2 := Lib.hid (H2.out.next hb); replace H3 := Lib.hid (H3.out.next hb); replace HB := Lib.hid (Below.next HB.out hb); clear hb
 obtain ⟨c0, c1, c2, c3, c4⟩ := five H2.out
 obtain ⟨f0, f1, f2, f3, f4⟩ := thaw H1.out
 obtain ⟨e0, e1, e2, e3, e4⟩ := five H1.out
 go_wp2_with (fail)
 clear c0 c1 c2 c3 c4 f0 f1 f2 f3 f4 e0 e1 e2 e3 e4
 refine fin5 (P := fun W => Calls Try.prog _ _ W _) H1.out HB.out (Nat.le_refl _) _ _ _ _ _ fun w2 hx hy ho => ?_
 replace H3 := Lib.hid (ho _ _ (by omega) H3.out); replace H1 := Lib.hid hx; replace HB := Lib.hid hy; clear hx hy ho H2
 refine (HC.out _).mono ?_
 rintro e w3 ⟨rfl, hb⟩
 replace H1 := Lib.hid (H1.out.next hb); replace H3 := Lib.hid (H3.out.next hb); replace HB := Lib.hid (Below.next HB.out hb); clear hb
 obtain ⟨c0, c1, c2, c3, c4⟩ := five H1.out
 obtain ⟨f0, f1, f2, f3, f4⟩ := thaw H3.out
 obtain ⟨e0, e1, e2, e3, e4⟩ := five H3.out
 have g2 := H1.out.f 2 _ rfl
 go_wp2_with (fail)
 have h3 := H3.out.put (show w.heap.size ≠ w.heap.size + 1 + 1 by omega) 2 (.string s')
 have hb3 := HB.out.setCell (p := ⟨w.heap.size, 2, none⟩) (Nat.le_refl _) (.string s')
 clear c0 c1 c2 c3 c4 f0 f1 f2 f3 f4 e0 e1 e2 e3 e4 g2
 refine fin5 (P := bodyPost _ _ _ _ _) h3 hb3 (by omega) _ _ _ _ _ fun w4 hx hy _ => ?_
 obtain ⟨c0, c1, c2, c3, c4⟩ := five hx
 exact bodyPost_ret (v := .agg #[.int .i64 k', .int .i64 n', .string s', .int .i64 x', .int .i64 y']) (by simp [results, Try.results75, go_sem, c0, c1, c2, c3, c4]) rfl ⟨rfl, hy⟩
set_option maxHeartbeats 1000000 in
theorem choose_a (c : ByteArray) (k n x y k' n' x' y' : Int) (s s' : ByteArray) (hs : s.size ≤ 281474976710656) (w : World) (h : (decide (ord ⟨k, n, s.data.toList, x, y⟩ ⟨k', n', s'.data.toList, x', y'⟩ < 0) == (c.toList == [109, 97, 120])) = false) :
 Calls Try.prog 75 #[.string c, .agg #[.int .i64 k, .int .i64 n, .string s, .int .i64 x, .int .i64 y], .agg #[.int .i64 k', .int .i64 n', .string s', .int .i64 x', .int .i64 y']] w (Gives (.agg #[.int .i64 k, .int .i64 n, .string s, .int .i64 x, .int .i64 y]) w) := by
 have HO := Lib.hid (order_val k n x y k' n' x' y' s s')
 have HC := Lib.hid (fun w1 => clone_any s w1 hs)
 generalize ord ⟨k, n, s.data.toList, x, y⟩ ⟨k', n', s'.data.toList, x', y'⟩ = o at *
 obtain ⟨D1, D2, D3, hb0⟩ := two_boxes w 47 [.int .i64 k, .int .i64 n, .string s, .int .i64 x, .int .i64 y] [.int .i64 k', .int .i64 n', .string s', .int .i64 x', .int .i64 y'] [.int .i64 0, .int .i64 0, .string ⟨#[]⟩, .int .i64 0, .int .i64 0]
 have H1 := Lib.hid D1; have H2 := Lib.hid D2; have H3 := Lib.hid D3; have HB := Lib.hid hb0; clear D1 D2 D3 hb0
 go_enter Try.func75, Try.ntmps75
 go_wp2_with (fail)
 refine (HO.out _).mono ?_
 rintro e w1 ⟨rfl, hb⟩
 replace H1 := Lib.hid (H1.out.next hb); replace H2 := Lib.hid (H2.out.next hb); replace H3 := Lib.hid (H3.out.next hb); replace HB := Lib.hid (Below.next HB.out hb); clear hb
 obtain ⟨c0, c1, c2, c3, c4⟩ := five H1.out
 go_wp2_with (fail)
 clear c0 c1 c2 c3 c4
 refine (HC.out _).mono ?_
 rintro e w3 ⟨rfl, hb⟩
 replace H1 := Lib.hid (H1.out.next hb); replace H2 := Lib.hid (H2.out.next hb); replace H3 := Lib.hid (H3.out.next hb); replace HB := Lib.hid (Below.next HB.out hb); clear hb
 obtain ⟨c0, c1, c2, c3, c4⟩ := five H1.out
 obtain ⟨f0, f1, f2, f3, f4⟩ := thaw H3.out
 obtain ⟨e0, e1, e2, e3, e4⟩ := five H3.out
 have g2 := H1.out.f 2 _ rfl
 go_wp2_with (fail)
 have h3 := H3.out.put (show w.heap.size ≠ w.heap.size + 1 + 1 by omega) 2 (.string s)
 have hb3 := HB.out.setCell (p := ⟨w.heap.size, 2, none⟩) (Nat.le_refl _) (.string s)
 clear c0 c1 c2 c3 c4 f0 f1 f2 f3 f4 e0 e1 e2 e3 e4 g2
 refine fin5 (P := bodyPost _ _ _ _ _) h3 hb3 (by omega) _ _ _ _ _ fun w4 hx hy _ => ?_
 obtain ⟨c0, c1, c2, c3, c4⟩ := five hx
 exact bodyPost_ret (v := .agg #[.int .i64 k, .int .i64 n, .string s, .int .i64 x, .int .i64 y]) (by simp [results, Try.results75, go_sem, c0, c1, c2, c3, c4]) rfl ⟨rfl, hy⟩
theorem sum_text (c : ByteArray) : (c.toList == [115, 117, 109]) = decide (c.data.toList = wSum) := by
 rw [ByteArray.toList_eq, Bool.eq_iff_iff, beq_iff_eq, decide_eq_true_iff]; rfl
set_option maxRecDepth 100000 in
theorem numbers_any (c : ByteArray) (a b : Int) (ha : -9007199254740992 ≤ a ∧ a ≤ 9007199254740992) (hb : -9007199254740992 ≤ b ∧ b ≤ 9007199254740992) (w : World) :
 Calls Try.prog 76 #[.string c, .int .i64 a, .int .i64 b] w (Gives (.int .i64 (if c.data.toList = wSum then rg (a + b) 9007199254740992 else (Int.gcd a b : Int))) w) := by
 have hq := sum_text c
 by_cases h : c.data.toList = wSum
 · rw [if_pos h]
   rw [decide_eq_true h] at hq
   have HC := Lib.hid (fun w => round_any (a + b) 9007199254740992 (by decide) (by omega) w)
   have h1 : wrap64 (a + b) = a + b := IntWalk.wrap64_in _ (by omega)
   clear h ha hb
   go_enter Try.func76, Try.ntmps76
   go_wp2_with (fail)
   refine (HC.out _).mono ?_
   rintro e w1 ⟨rfl, hb⟩
   have HB := Lib.hid hb; clear hb
   go_wp2_with (fail)
   go_ret
   exact ⟨rfl, HB.out⟩
 · rw [if_neg h]
   rw [decide_eq_false h] at hq
   have HC := Lib.hid (fun w => common_any a b ha hb w)
   generalize (Int.gcd a b : Int) = g at *
   clear h ha hb
   go_enter Try.func76, Try.ntmps76
   go_wp2_with (fail)
   refine (HC.out _).mono ?_
   rintro e w1 ⟨rfl, hb⟩
   have HB := Lib.hid hb; clear hb
   go_wp2_with (fail)
   go_ret
   exact ⟨rfl, HB.out⟩
set_option maxRecDepth 100000 in
set_option maxHeartbeats 1000000 in
theorem spots_sum (c : ByteArray) (x y u v : Int) (hq : (c.toList == [115, 117, 109]) = true) (hx : -16777216 ≤ x ∧ x ≤ 16777216) (hy : -16777216 ≤ y ∧ y ≤ 16777216) (hu : -16777216 ≤ u ∧ u ≤ 16777216) (hv : -16777216 ≤ v ∧ v ≤ 16777216) (w : World) :
 Calls Try.prog 77 #[.string c, .agg #[.int .i64 x, .int .i64 y], .agg #[.int .i64 u, .int .i64 v]] w (Gives (.agg #[.int .i64 (rg (x + u) 16777216), .int .i64 (rg (y + v) 16777216)]) w) := by
 have h1 : wrap64 (x + u) = x + u := IntWalk.wrap64_in _ (by omega)
 have h2 : wrap64 (y + v) = y + v := IntWalk.wrap64_in _ (by omega)
 have HX := Lib.hid (fun w => round_any (x + u) 16777216 (by decide) (by omega) w)
 have HY := Lib.hid (fun w => round_any (y + v) 16777216 (by decide) (by omega) w)
 generalize rg (x + u) 16777216 = p at *
 generalize rg (y + v) 16777216 = q at *
 clear hx hy hu hv
 obtain ⟨kb, o1, o2, o3⟩ := boxes3 45 (.int .i64 x) (.int .i64 y) (.int .i64 u) (.int .i64 v) (.int .i64 0) (.int .i64 0) w
 have HB := Lib.hid kb; have D1 := Lib.hid o1; have D2 := Lib.hid o2; have D3 := Lib.hid o3
 clear kb o1 o2 o3
 go_enter Try.func77, Try.ntmps77
 go_wp2_with (fail)
 generalize ((w.alloc (.cells #[.int .i64 x, .int .i64 y] 45)).alloc (.cells #[.int .i64 u, .int .i64 v] 45)).alloc (.cells #[.int .i64 0, .int .i64 0] 45) = v1 at *
 have d0 := fun r : Over v1 => (D1.out.over r).c0
 have d1 := fun r : Over v1 => (D1.out.over r).c1
 have e0 := fun r : Over v1 => (D2.out.over r).c0
 have e1 := fun r : Over v1 => (D2.out.over r).c1
 refine wp_over_tail 13 (by kernel_rfl) (by kernel_rfl) ?_
 simp only [List.take_succ_cons, List.take_zero, List.drop_succ_cons, List.drop_zero]
 repeat (go_big_quiet_step (first | fail | with_reducible exact over_gives _ (HX.out _) | with_reducible exact over_gives _ (HY.out _)))
 refine wpQuiet_nil ?_
 rintro w2 ⟨⟨w2, hb⟩, rfl⟩
 have E3 := D3.out.next hb
 replace HB := Lib.hid (Below.next HB.out hb)
 have hz := E3.lt
 have K3 := Lib.hid E3
 obtain ⟨c0, c1, f0, f1⟩ := E3
 clear hb d0 d1 e0 e1 D1 D2 D3
 go_wp2_with (fail)
 clear c0 c1 f0 f1
 refine fin2 (P := bodyPost _ _ _ _ _) K3.out HB.out (by omega) _ _ fun w4 hx hy => ?_
 obtain ⟨c0, c1, _, _⟩ := hx
 exact bodyPost_ret (v := .agg #[.int .i64 p, .int .i64 q]) (by simp [results, Try.results77, go_sem, c0, c1]) rfl ⟨rfl, hy⟩
set_option maxHeartbeats 1000000 in
theorem spots_gcd (c : ByteArray) (x y u v : Int) (hq : (c.toList == [115, 117, 109]) = false) (ha : rb ⟨x, y⟩ = true) (hb : rb ⟨u, v⟩ = true) (w : World) :
 Calls Try.prog 77 #[.string c, .agg #[.int .i64 x, .int .i64 y], .agg #[.int .i64 u, .int .i64 v]] w (Gives (.agg #[.int .i64 (Pt.cg ⟨x, y⟩ ⟨u, v⟩).x, .int .i64 (Pt.cg ⟨x, y⟩ ⟨u, v⟩).y]) w) := by
 have HC := Lib.hid (fun w => common_yes ha hb w)
 generalize (Pt.cg ⟨x, y⟩ ⟨u, v⟩).x = p at *
 generalize (Pt.cg ⟨x, y⟩ ⟨u, v⟩).y = q at *
 clear ha hb
 obtain ⟨kb, o1, o2, o3⟩ := boxes3 45 (.int .i64 x) (.int .i64 y) (.int .i64 u) (.int .i64 v) (.int .i64 0) (.int .i64 0) w
 have HB := Lib.hid kb; have D1 := Lib.hid o1; have D2 := Lib.hid o2; have D3 := Lib.hid o3
 clear kb o1 o2 o3
 go_enter Try.func77, Try.ntmps77
 go_wp2_with (fail)
 generalize ((w.alloc (.cells #[.int .i64 x, .int .i64 y] 45)).alloc (.cells #[.int .i64 u, .int .i64 v] 45)).alloc (.cells #[.int .i64 0, .int .i64 0] 45) = v1 at *
 refine (HC.out _).mono ?_
 rintro e w2 ⟨rfl, hb⟩
 have E3 := D3.out.next hb
 have hz := E3.lt
 have K3 := Lib.hid ((E3.set (.int .i64 p) (.int .i64 q)).old (.cells #[.int .i64 p, .int .i64 q] 45))
 have HB2 := Lib.hid ((((Below.next HB.out hb).setCell (p := ⟨w.heap.size + 1 + 1, 0, none⟩) (by show _ ≤ w.heap.size + 1 + 1; omega) (.int .i64 p)).setCell (p := ⟨w.heap.size + 1 + 1, 1, none⟩) (by show _ ≤ w.heap.size + 1 + 1; omega) (.int .i64 q)).alloc (by simp; have := HB.out.size; have := hb.size; omega) (.cells #[.int .i64 p, .int .i64 q] 45))
 obtain ⟨c0, c1, f0, f1⟩ := E3
 clear hb D1 D2 D3 HB
 go_wp2_with (fail)
 clear c0 c1 f0 f1
 obtain ⟨c0, c1, _, _⟩ := K3.out
 have hy := HB2.out
 generalize ((w2.setCell ⟨w.heap.size + 1 + 1, 0, none⟩ (.int .i64 p)).setCell ⟨w.heap.size + 1 + 1, 1, none⟩ (.int .i64 q)).alloc (.cells #[.int .i64 p, .int .i64 q] 45) = w4 at *
 exact bodyPost_ret (v := .agg #[.int .i64 p, .int .i64 q]) (by simp [results, Try.results77, go_sem, c0, c1]) rfl ⟨rfl, hy⟩
end Go.Proofs.Ytkbhnphkopgccaa.Jo
namespace Go.Proofs.Ytkbhnphkopgccaa.So
open Go.ChangeShapes Go.WideShapes Go.ChangeAt Go.RowKit Go.Sort Go.Proofs Ov Va St Pr
def ic (sl : Nat → Value) (r : Nat) : List Value := [.int .i64 r, sl r]
def ics (sl : Nat → Value) (f : Nat → Nat) (n : Nat) : List Value := (List.range n).flatMap fun i => ic sl (f i)
section
variable {sl : Nat → Value} {f g : Nat → Nat} {n : Nat}
end
structure HM (w : World) (hb lo : Nat) (v : Value) (sl : Nat → Value) (f : Nat → Nat) (n : Nat) : Prop where
 h : Blk w hb [v, .func (.func 47) #[] #[]]
 o : w.ownsRow lo 86 2 v n (ics sl f n)
 lo : lo ≤ hb
 ne : v.ownBlock ≠ some hb
def hO (hb : Nat) (v : Value) (b : Nat) : Prop := b = hb ∨ v.ownBlock = some b
section
variable {w w' : World} {hb lo n : Nat} {v : Value} {sl : Nat → Value} {f : Nat → Nat}
end
def qd (qs : List Part) (i : Nat) : Part := qs[i]?.getD default
def sl (qs : List Part) (d : Nat → Nat) (r : Nat) : Value :=
 match (qd qs r).1 with
 | some ⟨B, O, none⟩ => .slice (some ⟨B, O + d r * 6, none⟩) ((qd qs r).2.2.length - d r) ((qd qs r).2.1 - d r)
 | _ => .slice none ((qd qs r).2.2.length - d r) ((qd qs r).2.1 - d r)
end Go.Proofs.Ytkbhnphkopgccaa.So
namespace Go.Proofs.Ytkbhnphkopgccaa.Pr
open Go.ChangeShapes Go.WideShapes Go.ChangeAt Go.RowKit Ov Va
section
variable {H : Type} {enc : TypeId × Value → H} {w : World} {base : Nat} {spare : Nat → Bool} {held : Bool}
def vdt {H : Type} (k n : Int) (s : ByteArray) (x y : Int) : DataW H := .agg [.lit (.int .i64 k), .lit (.int .i64 n), .lit (.string s.data.toList), .agg [.lit (.int .i64 x), .lit (.int .i64 y)]]
set_option maxRecDepth 100000 in
theorem val_cells {fuel : Nat} {a0 a1 a2 a3 a4 : Value} {z : DataW H × List MemPlace} (h : DataW.trod enc Try.prog w base spare held fuel 47 [a0, a1, a2, a3, a4] = some z) :
 ∃ (k n : Int) (s : ByteArray) (x y : Int), [a0, a1, a2, a3, a4] = [.int .i64 k, .int .i64 n, .string s, .int .i64 x, .int .i64 y] ∧ z = (vdt k n s x y, []) ∧
  (Lit.int .i64 k).wf = true ∧ (Lit.int .i64 n).wf = true ∧ s.size ≤ maxLen ∧ (Lit.int .i64 x).wf = true ∧ (Lit.int .i64 y).wf = true := by
 have c1 : Try.prog.cellsOf 3 = 1 := by kernel_rfl
 have c2 : Try.prog.cellsOf 9 = 1 := by kernel_rfl
 have c3 : Try.prog.cellsOf 45 = 2 := by kernel_rfl
 obtain ⟨y0, y1, y2, y3, m, hx, _, h0, h1, h2, h3⟩ := Joins.trod_struct4 Try.underlying47 h
 simp only [c1, c2, c3] at h0 h1 h2 h3
 obtain ⟨k, e0, rfl, w0⟩ := DataW.trod_int Try.underlying3 h0
 obtain ⟨n, e1, rfl, w1⟩ := DataW.trod_int Try.underlying3 h1
 obtain ⟨s, e2, rfl, w2⟩ := DataW.trod_string Try.underlying9 h2
 obtain ⟨z0, z1, m', hz, _, g0, g1⟩ := trod_struct2 Try.underlying45 h3
 simp only [c1] at g0 g1
 obtain ⟨x, f0, rfl, u0⟩ := DataW.trod_int Try.underlying3 g0
 obtain ⟨y, f1, rfl, u1⟩ := DataW.trod_int Try.underlying3 g1
 have e3 : [a0] = [Value.int .i64 k] := e0
 have e4 : [a1] = [Value.int .i64 n] := e1
 have e5 : [a2] = [Value.string s] := e2
 have e6 : [a3] = [Value.int .i64 x] := f0
 have e7 : [a4] = [Value.int .i64 y] := f1
 obtain rfl : a0 = .int .i64 k := by simpa using e3
 obtain rfl : a1 = .int .i64 n := by simpa using e4
 obtain rfl : a2 = .string s := by simpa using e5
 obtain rfl : a3 = .int .i64 x := by simpa using e6
 obtain rfl : a4 = .int .i64 y := by simpa using e7
 subst hz
 exact ⟨k, n, s, x, y, rfl, by rw [hx]; rfl, w0, w1, w2, u0, u1⟩
set_option maxRecDepth 100000 in
theorem pair_cells {fuel : Nat} {cs : List Value} {z : DataW H × List MemPlace} (h : DataW.trod enc Try.prog w base spare held fuel 49 cs = some z) :
 ∃ (u : ByteArray) (k n : Int) (s : ByteArray) (x y : Int), cs = [.string u, .int .i64 k, .int .i64 n, .string s, .int .i64 x, .int .i64 y] ∧ z = (.agg [.lit (.string u.data.toList), vdt k n s x y], []) ∧
  u.size ≤ maxLen ∧ (Lit.int .i64 k).wf = true ∧ (Lit.int .i64 n).wf = true ∧ s.size ≤ maxLen ∧ (Lit.int .i64 x).wf = true ∧ (Lit.int .i64 y).wf = true := by
 have c2 : Try.prog.cellsOf 9 = 1 := by kernel_rfl
 have c4 : Try.prog.cellsOf 47 = 5 := by kernel_rfl
 have c5 : Try.prog.cellsOf 49 = 6 := by kernel_rfl
 obtain ⟨y0, y1, m, hx, hl, g0, g1⟩ := trod_struct2 Try.underlying49 h
 rw [c5] at hl
 match cs, hl with
 | [a0, a1, a2, a3, a4, a5], _ =>
   simp only [c2, c4] at g0 g1
   obtain ⟨u, e0, rfl, w0⟩ := DataW.trod_string Try.underlying9 g0
   have e1 : [a0] = [Value.string u] := e0
   obtain rfl : a0 = .string u := by simpa using e1
   change DataW.trod enc Try.prog w base spare held m 47 [a1, a2, a3, a4, a5] = _ at g1
   obtain ⟨k, n, s, x, y, e2, rfl, q⟩ := val_cells g1
   simp only [List.cons.injEq, and_true] at e2
   obtain ⟨rfl, rfl, rfl, rfl, rfl⟩ := e2
   exact ⟨u, k, n, s, x, y, rfl, hx, w0, q⟩
end
theorem pcl_lt {p : Pr} {j : Nat} {v : Value} (h : (pcl p)[j]? = some v) : j < 6 := (List.getElem?_eq_some_iff.1 h).1
theorem plain_addr {w : World} {a : Addr} {v : Value} (h : w.cell? a = some v) : a = ⟨a.block, a.off, none⟩ := by
 obtain ⟨b, off, spot⟩ := a
 have hspot : spot = none := World.cell?_spot h
 subst hspot; rfl
def PrIn (w : World) (p : Option Addr) (n c : Nat) (l : List Pr) : Prop := l.length = n ∧ PIn w (p, c, l) ∧ n ≤ maxLen ∧ n ≤ c
set_option maxRecDepth 100000 in
theorem pairs_of {H : Type} {enc : TypeId × Value → H} {W : World} {p : Option Addr} {n c : Nat} {d : DataW H} {ps : List MemPlace} (h : DataW.Trod enc Try.prog W 0 (fun _ => true) true 22 (.slice p n c) d ps) : ∃ l : List Pr, PrIn W p n c l := by
 have c5 : Try.prog.cellsOf 49 = 6 := by kernel_rfl
 obtain ⟨fuel, hf⟩ := h
 rcases Go.Deep.open_slice Try.underlying22 hf with ⟨hcs, _⟩ | ⟨a, len, cap, m, f, D, Pl, hcs, _, hlc, hcm, hm, _, hall⟩
 · simp [Value.cells] at hcs
   obtain ⟨rfl, rfl, rfl⟩ := hcs
   exact ⟨[], rfl, ⟨Prs.nil _ _, fun _ => ⟨rfl, rfl⟩⟩, Nat.zero_le _, Nat.zero_le _⟩
 · simp [Value.cells] at hcs
   obtain ⟨rfl, rfl, rfl⟩ := hcs
   simp at hm
   subst hm
   have hz : ∀ i, i < m → ∃ q : Pr, ∀ j v, (pcl q)[j]? = some v → W.cell? ((a.add (i * 6)).add j) = some v := fun i hi => by
    obtain ⟨cs', hc, ht⟩ := hall i hi
    rw [c5] at hc
    obtain ⟨u, k, n', s, x, y, e, _⟩ := pair_cells ht
    have e' : cs' = pcl (u.data.toList, ⟨k, n', s.data.toList, x, y⟩) := by rw [e]; unfold pcl; dsimp only; rw [tx_of, tx_of]
    rw [e'] at hc
    obtain ⟨_, _, hat⟩ := World.cells?_some hc
    exact ⟨_, fun j v hv => by rw [hat j (pcl_lt hv)]; exact hv⟩
   obtain ⟨q, hq⟩ := Go.Deep.choose_lt hz
   have hget : ∀ i, i < n → pd ((List.range n).map q) i = q i := fun i hi => by unfold pd; simp [hi]
   refine ⟨(List.range n).map q, by simp, ⟨fun hn => ?_, fun h => nomatch h⟩, Nat.le_trans hlc hcm, hlc⟩
   have hn' : 0 < n := by simpa using hn
   have h0 := hq 0 (by omega) 0 _ rfl
   have ha := plain_addr (show W.cell? a = _ by simpa [Addr.add] using h0)
   refine ⟨a.block, a.off, congrArg some ha, fun i j v hi hv => ?_⟩
   have hi' : i < n := by simpa using hi
   rw [hget i hi'] at hv
   have := hq i (by omega) j v hv
   rw [ha, Go.WideShapes.add_plain, Go.WideShapes.add_plain] at this
   exact this
end Go.Proofs.Ytkbhnphkopgccaa.Pr

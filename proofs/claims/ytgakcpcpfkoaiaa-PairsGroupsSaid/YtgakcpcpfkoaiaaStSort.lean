/-
  slices' stable sort at elements of k cells: stableCmpFunc, SortStableFunc (written by gen_st.py).
-/
import Derived.Test.YtgakcpcpfkoaiaaStSym
import Derived.Test.YtgakcpcpfkoaiaaStRuns
namespace Go.Proofs.Ytgakcpcpfkoaiaa.St
open Go.Proofs Go.RowKit Go.Shelf Go.Lib Go.Sort
variable {P : Program} {α : Type} [Inhabited α]

/-- slices.insertionSortCmpFunc, by the library's contract. -/
theorem insertion (L : StL P) (k : Nat) (aE : ∀ w, (isAgg 44).run P w = .ok true w) (zE : ∀ w, (Go.sizeOf 44).run P w = .ok k w) (enc : α → List Value) (cf : α → α → Int) (g : Nat) (cb : Array Value) (blk off cap : Nat) (d0 : Array α) (w0 : World) (hO : SWO (ltOf cf))
    (eg : ∀ args w, (callFunc g args).run P w = .ok (.enter g args) w) (hcmp : CmpLays P g cb enc k cf blk off d0.size w0) (R : RowK enc k w0 blk off d0) (a b : Nat) (d : Array α) (w : World)
    (hs : d0.size = d.size) (S : SWK enc k w0 blk off d w) (hab : a ≤ b) (hb : b ≤ d.size) (hsz : d.size < 4611686018427387904) :
    Calls P 60 #[.slice (some ⟨blk, off, none⟩) d.size cap, .int .i64 a, .int .i64 b, .func (.func g) #[] cb] w fun e w' => e = .returned (.tuple #[]) ∧ ∃ d', Srt (ltOf cf) a b d d' ∧ SWK enc k w0 blk off d' w' := by
  have hI := srt_ins hO d a b hab hb
  have hC : CmpLays P g cb enc k cf blk off d.size w := fun m os dk hdk x y => by
    obtain ⟨n0, os0, rfl⟩ := S
    rw [sortWorldK_on enc k w0 blk off n0 m d dk os0 os R.hblk hdk]
    exact hcmp _ _ dk (by omega) x y
  refine (AnyQ.insertionSortCmpFunc L.ins k aE zE enc R.hk R.h1 cf g cb blk off cap a b d w eg hC (S.holds R.hblk R.hH hs.symm) (S.lt R.hblk) hab hb hsz).mono ?_
  rintro e w' ⟨rfl, n, os, rfl⟩
  exact ⟨rfl, _, hI, S.on R.hblk n _ os hI.size⟩

set_option maxHeartbeats 8000000 in
set_option maxRecDepth 1000000 in
/-- slices.stableCmpFunc. -/
theorem stable (L : StL P) (k : Nat) (aE : ∀ w, (isAgg 44).run P w = .ok true w) (zE : ∀ w, (Go.sizeOf 44).run P w = .ok k w) (enc : α → List Value) (cf : α → α → Int) (g : Nat) (cb : Array Value) (blk off cap : Nat) (d0 : Array α) (w0 : World) (hO : SWO (ltOf cf))
    (eg : ∀ args w, (callFunc g args).run P w = .ok (.enter g args) w) (hcmp : CmpLays P g cb enc k cf blk off d0.size w0) (R : RowK enc k w0 blk off d0) (d : Array α) (w : World)
    (hs : d0.size = d.size) (S : SWK enc k w0 blk off d w) (hsz : d.size < 4611686018427387904) :
    Calls P 49 #[.slice (some ⟨blk, off, none⟩) d.size cap, .int .i64 d.size, .func (.func g) #[] cb] w fun e w' => e = .returned (.tuple #[]) ∧ ∃ d', Srt (ltOf cf) 0 d.size d d' ∧ SWK enc k w0 blk off d' w' := by
  have mixed := L.mixed
  have t0 := L.t0
  have a0 := L.a0
  have z0 := L.z0
  have v0 := L.v0
  have t3 := L.t3
  have a3 := L.a3
  have z3 := L.z3
  have v3 := L.v3
  have t4 := L.t4
  have a4 := L.a4
  have z4 := L.z4
  have v4 := L.v4
  have t22 := L.t22
  have a22 := L.a22
  have z22 := L.z22
  have v22 := L.v22
  have t25 := L.t25
  have a25 := L.a25
  have z25 := L.z25
  have v25 := L.v25
  have tu := L.tu
  have au := L.au
  have zu := L.zu
  have vu := L.vu
  have eI : ∀ args w, (callFunc 60 args).run P w = .ok (.enter 60 args) w := enters_of L.fI (by kernel_rfl) rfl
  have eM : ∀ args w, (callFunc 61 args).run P w = .ok (.enter 61 args) w := enters_of L.fM (by kernel_rfl) rfl
  have S0 : Aside (SWK enc k w0 blk off d w) := S
  have HC : Aside _ := hcmp
  clear S hcmp
  obtain ⟨n, hn⟩ : ∃ n, n = d.size := ⟨_, rfl⟩
  have n1 : n ≤ d.size := by omega
  have n2 : d.size ≤ n := by omega
  go_enter L.fT, Try.ntmps49
  go_wp2_with fail
  go_loopg [7, 8] d.size (fun kx s7 s8 wr => ∃ (a b : Nat) (dk : Array α), s7 = .int .i64 a ∧ s8 = .int .i64 b ∧ b ≤ a + 20 ∧ a + 20 ≤ b ∧ a ≤ d.size ∧ d.size - a ≤ kx ∧ dk.size = d.size ∧ Aside (Done (ltOf cf) 20 dk a) ∧ Aside (Pm (ltOf cf) d dk) ∧ Aside (SWK enc k w0 blk off dk wr))
  case atStart => exact ⟨0, 20, d, rfl, rfl, by omega, by omega, Nat.zero_le _, Nat.le_refl _, rfl, .zero, Pm.refl d, S0⟩
  case round =>
    clear S0
    obtain ⟨a, b, dk, rfl, rfl, b1, b2, ha, hkx, hds, HD, HP, S1⟩ := hrel
    by_cases hlt : b ≤ d.size
    · have hltz : (b : Int) ≤ (d.size : Int) := by omega
      have hin := insertion L k aE zE enc cf g cb blk off cap d0 w0 hO eg HC.out R a b dk wr (by omega) S1.out (by omega) (by omega) (by omega)
      rw [hds] at hin
      go_wp2_with fail
      refine hin.mono ?_
      rintro _ w1 ⟨rfl, d1, hI, S2⟩
      go_wp2_with fail
      go_roundg (d.size - b)
      case measure => omega
      case rel => exact ⟨b, b + 20, d1, rfl, by go_num, by omega, by omega, hlt, Nat.le_refl _, hI.size.trans hds, (show Done _ _ _ _ from by
          have e : b = a + 20 := by omega
          have := hI.ord
          rw [e] at this ⊢
          exact .run (HD.out.same fun i hi => hI.out (Or.inl hi)) this), HP.out.next hI hlt, S2⟩
    · have hltz : ¬ (b : Int) ≤ (d.size : Int) := by omega
      have hin := insertion L k aE zE enc cf g cb blk off cap d0 w0 hO eg HC.out R a d.size dk wr (by omega) S1.out ha (by omega) (by omega)
      rw [hds] at hin
      go_wp2_with fail
      refine hin.mono ?_
      rintro _ w1 ⟨rfl, d1, hI, S2⟩
      have H0 : Aside (Runs (ltOf cf) 20 d.size d1 0) := (HD.out.same fun i hi => hI.out (Or.inl hi)).all (Runs.last hI.ord (by omega)) ha
      have P0 : Aside (Pm (ltOf cf) d d1) := HP.out.next hI (Nat.le_refl _)
      have z0' : d1.size = d.size := hI.size.trans hds
      have S3 : Aside (SWK enc k w0 blk off d1 w1) := S2
      clear HD HP S1 hI hin hds S2 hlt hltz hkx b1 b2
      go_wp2_with fail
      go_loopg [6] (d.size + d.size) (fun kx s6 wr => ∃ (bs : Nat) (dk : Array α), s6 = .int .i64 bs ∧ 20 ≤ bs ∧ bs ≤ d.size + d.size + 20 ∧ d.size + d.size - bs ≤ kx ∧ dk.size = d.size ∧ Aside (Runs (ltOf cf) bs d.size dk 0) ∧ Aside (Pm (ltOf cf) d dk) ∧ Aside (SWK enc k w0 blk off dk wr))
      case atStart => exact ⟨20, d1, rfl, Nat.le_refl _, by omega, by omega, z0', H0, P0, S3⟩
      case round =>
        clear S3 H0 P0 z0'
        obtain ⟨bs, dk, rfl, l1, l2, hkx, hds, HR, HP, S1⟩ := hrel
        by_cases hlt : bs < d.size
        · have hltz : (bs : Int) < (d.size : Int) := by omega
          go_wp2_with fail
          go_loopg [7, 8] d.size (fun kx s7 s8 wr => ∃ (a b : Nat) (dk : Array α), s7 = .int .i64 a ∧ s8 = .int .i64 b ∧ b ≤ a + bs + bs ∧ a + bs + bs ≤ b ∧ a ≤ d.size ∧ d.size - a ≤ kx ∧ dk.size = d.size ∧ Aside (Done (ltOf cf) (bs + bs) dk a) ∧ Aside (Runs (ltOf cf) bs d.size dk a) ∧ Aside (Pm (ltOf cf) d dk) ∧ Aside (SWK enc k w0 blk off dk wr))
          case atStart => exact ⟨0, bs + bs, dk, rfl, by go_num, by omega, by omega, Nat.zero_le _, Nat.le_refl _, hds, .zero, HR, HP, S1⟩
          case round =>
            clear HR HP S1 hds
            obtain ⟨a, b, dk, rfl, rfl, b1, b2, ha, hkx2, hds, HD, HR, HP, S1⟩ := hrel
            by_cases hle : b ≤ d.size
            · have hlez : (b : Int) ≤ (d.size : Int) := by omega
              have o1 := HR.out.open (show a < d.size by omega)
              have o2 := o1.2.open (show a + bs < d.size by omega)
              have hme := symMerge L k aE zE enc cf g cb blk off cap d0 w0 hO eg HC.out R (b - a + 1) a (a + bs) b dk wr (by omega) (by omega) S1.out (by omega) (by omega) (by omega) (by omega)
                (by have := o1.1; rwa [show min (a + bs) d.size = a + bs by omega] at this) (by have := o2.1; rwa [show min (a + bs + bs) d.size = b by omega] at this)
              have T : Aside (Runs (ltOf cf) bs d.size dk (a + bs + bs)) := o2.2
              clear o1 o2
              rw [hds, show ((a + bs : Nat) : Int) = (a : Int) + (bs : Int) by omega] at hme
              go_wp2_with fail
              refine hme.mono ?_
              rintro _ w2 ⟨rfl, d2, hI, S2⟩
              go_wp2_with fail
              go_roundg (d.size - b)
              case measure => omega
              case rel => exact ⟨b, b + bs + bs, d2, rfl, by go_num, by omega, by omega, hle, Nat.le_refl _, hI.size.trans hds, (show Done _ _ _ _ from by
                  have e : b = a + (bs + bs) := by omega
                  have := hI.ord
                  rw [e] at this ⊢
                  exact .run (HD.out.same fun i hi => hI.out (Or.inl hi)) this), (show Runs _ _ _ _ _ from by
                  have e : b = a + bs + bs := by omega
                  rw [e]; exact T.out.same fun i hi => hI.out (Or.inr (by omega))), HP.out.next hI hle, S2⟩
            · have hlez : ¬ (b : Int) ≤ (d.size : Int) := by omega
              by_cases hm : a + bs < d.size
              · have hmz : (a : Int) + (bs : Int) < (d.size : Int) := by omega
                have o1 := HR.out.open (show a < d.size by omega)
                have o2 := o1.2.open (show a + bs < d.size by omega)
                have hme := symMerge L k aE zE enc cf g cb blk off cap d0 w0 hO eg HC.out R (d.size - a + 1) a (a + bs) d.size dk wr (by omega) (by omega) S1.out (by omega) (by omega) (by omega) (by omega)
                  (by have := o1.1; rwa [show min (a + bs) d.size = a + bs by omega] at this) (by have := o2.1; rwa [show min (a + bs + bs) d.size = d.size by omega] at this)
                clear o1 o2
                rw [hds, show ((a + bs : Nat) : Int) = (a : Int) + (bs : Int) by omega] at hme
                go_wp2_with fail
                refine hme.mono ?_
                rintro _ w2 ⟨rfl, d2, hI, S2⟩
                go_wp2_with fail
                go_roundg (d.size + d.size - (bs + bs))
                case measure => omega
                case rel => exact ⟨bs + bs, d2, by go_num, by omega, by omega, Nat.le_refl _, hI.size.trans hds, (HD.out.same fun i hi => hI.out (Or.inl hi)).all (Runs.last hI.ord (by omega)) ha, HP.out.next hI (Nat.le_refl _), S2⟩
              · have hmz : ¬ (a : Int) + (bs : Int) < (d.size : Int) := by omega
                go_wp2_with fail
                go_roundg (d.size + d.size - (bs + bs))
                case measure => omega
                case rel => exact ⟨bs + bs, dk, by go_num, by omega, by omega, Nat.le_refl _, hds, HD.out.all (by
                    by_cases e : a < d.size
                    · have o1 := (HR.out.open e).1
                      rw [show min (a + bs) d.size = d.size by omega] at o1
                      exact Runs.last o1 (by omega)
                    · exact .fin (by omega)) ha, HP, S1⟩
        · have hltz : ¬ (bs : Int) < (d.size : Int) := by omega
          go_wp2_with fail
          go_end0
          exact ⟨rfl, dk, HP.out.done (by
            by_cases e : 0 < d.size
            · have o1 := (HR.out.open e).1
              rwa [show min (0 + bs) d.size = d.size by omega] at o1
            · intro i j _ _ h; omega), S1.out⟩

set_option maxHeartbeats 2000000 in
set_option maxRecDepth 100000 in
/-- slices.SortStableFunc. -/
theorem sortStable (L : StL P) (k : Nat) (aE : ∀ w, (isAgg 44).run P w = .ok true w) (zE : ∀ w, (Go.sizeOf 44).run P w = .ok k w) (enc : α → List Value) (cf : α → α → Int) (g : Nat) (cb : Array Value) (blk off cap : Nat) (d0 : Array α) (w0 : World) (hO : SWO (ltOf cf))
    (eg : ∀ args w, (callFunc g args).run P w = .ok (.enter g args) w) (hcmp : CmpLays P g cb enc k cf blk off d0.size w0) (R : RowK enc k w0 blk off d0) (hsz : d0.size < 4611686018427387904) :
    Calls P 31 #[.slice (some ⟨blk, off, none⟩) d0.size cap, .func (.func g) #[] cb] w0 fun e w' => e = .returned (.tuple #[]) ∧ ∃ d', Srt (ltOf cf) 0 d0.size d0 d' ∧ SWK enc k w0 blk off d' w' := by
  have mixed := L.mixed
  have t0 := L.t0
  have a0 := L.a0
  have z0 := L.z0
  have v0 := L.v0
  have t3 := L.t3
  have a3 := L.a3
  have z3 := L.z3
  have v3 := L.v3
  have t4 := L.t4
  have a4 := L.a4
  have z4 := L.z4
  have v4 := L.v4
  have t22 := L.t22
  have a22 := L.a22
  have z22 := L.z22
  have v22 := L.v22
  have t25 := L.t25
  have a25 := L.a25
  have z25 := L.z25
  have v25 := L.v25
  have tu := L.tu
  have au := L.au
  have zu := L.zu
  have vu := L.vu
  have eT : ∀ args w, (callFunc 49 args).run P w = .ok (.enter 49 args) w := enters_of L.fT (by kernel_rfl) rfl
  have hst := stable L k aE zE enc cf g cb blk off cap d0 w0 hO eg hcmp R d0 w0 rfl (SWK.start R.hH) hsz
  clear hcmp
  go_enter L.fO, Try.ntmps31
  go_wp2_with fail
  refine hst.mono ?_
  rintro _ w1 ⟨rfl, d1, hI, S2⟩
  go_wp2_with fail
  go_end0
  exact ⟨rfl, d1, hI, S2⟩
end Go.Proofs.Ytgakcpcpfkoaiaa.St

/-
  A text of this claim: StSym.
-/
import Derived.Test.YtamhfjlffacakaaQStMerge
import Derived.Deep.Cut
import Derived.Deep.CutRange
namespace Go.Proofs.Ytamhfjlffacakaa.St
open Go.Proofs Go.RowKit Go.Shelf Go.Lib Go.Sort
section
variable {P : Program} {α : Type} [Inhabited α]
set_option maxHeartbeats 8000000 in
set_option maxRecDepth 1000000 in
theorem symMerge (L : StL P) (k : Nat) (aE : ∀ w, (isAgg 35).run P w = .ok true w) (zE : ∀ w, (Go.sizeOf 35).run P w = .ok k w) (enc : α → List Value) (cf : α → α → Int) (g : Nat) (cb : Array Value) (blk off cap : Nat) (d0 : Array α) (w0 : World) (hO : SWO (ltOf cf))
 (eg : ∀ args w, (callFunc g args).run P w = .ok (.enter g args) w) (hcmp : CmpLays P g cb enc k cf blk off d0.size w0) (R : RowK enc k w0 blk off d0) :
 ∀ (N a m b : Nat) (d : Array α) (w : World), b - a < N → d0.size = d.size → SWK enc k w0 blk off d w → a < m → m < b → b ≤ d.size → d.size < 4611686018427387904 → SortedIn (ltOf cf) a m d → SortedIn (ltOf cf) m b d →
 Calls P 87 #[.slice (some ⟨blk, off, none⟩) d.size cap, .int .i64 a, .int .i64 m, .int .i64 b, .func (.func g) #[] cb] w fun e w' => e = .returned (.tuple #[]) ∧ ∃ d', Srt (ltOf cf) a b d d' ∧ SWK enc k w0 blk off d' w' := by
 have mixed := L.mixed
 have t0 := L.t0
 have a0 := L.a0
 have z0 := L.z0
 have v0 := L.v0
 have t3 := L.t3
 have a3 := L.a3
 have z3 := L.z3
 have v3 := L.v3
 have t4 := L.t4
 have a4 := L.a4
 have z4 := L.z4
 have v4 := L.v4
 have t22 := L.t22
 have a22 := L.a22
 have z22 := L.z22
 have v22 := L.v22
 have t25 := L.t25
 have a25 := L.a25
 have z25 := L.z25
 have v25 := L.v25
 have tu := L.tu
 have au := L.au
 have zu := L.zu
 have vu := L.vu
 have eR : ∀ args w, (callFunc 93 args).run P w = .ok (.enter 93 args) w := enters_of L.fR (by kernel_rfl) rfl
 have eM : ∀ args w, (callFunc 87 args).run P w = .ok (.enter 87 args) w := enters_of L.fM (by kernel_rfl) rfl
 intro N
 induction N with
 | zero => intro _ _ _ _ _ h; exact absurd h (Nat.not_lt_zero _)
 | succ N ih0 =>
   intro a m b d w hN hs S ham hmb hb hsz hA hB
   by_cases h1 : m = a + 1
   · subst h1
     exact mergeFirst L k aE zE enc cf g cb blk off cap d0 w0 hO eg hcmp R a b d w hs S hmb hb hsz hB
   by_cases h2 : b = m + 1
   · subst h2
     exact mergeLast L k aE zE enc cf g cb blk off cap d0 w0 hO eg hcmp R a m d w hs S (by omega) (by omega) hsz hA
   have HC : Aside _ := hcmp
   have S0 : Aside (SWK enc k w0 blk off d w) := S
   have HAB : Aside (SortedIn (ltOf cf) a m d ∧ SortedIn (ltOf cf) m b d) := ⟨hA, hB⟩
   have IH : Aside _ := ih0
   clear hcmp S hA hB ih0
   have q1 : ((m : Int) - (a : Int) == 1) = false := by rw [beq_eq_false_iff_ne]; omega
   have q2 : ((b : Int) - (m : Int) == 1) = false := by rw [beq_eq_false_iff_ne]; omega
   obtain ⟨mid, hmid⟩ : ∃ mid, mid = (a + b) / 2 := ⟨_, rfl⟩
   have hmz : ((a : Int) + (b : Int)) / 2 = (mid : Int) := by omega
   have m1 : a < mid := by omega
   have m2 : mid < b := by omega
   have m3 : a + b ≤ mid + mid + 1 := by omega
   have m4 : mid + mid ≤ a + b := by omega
   clear hmid
   obtain ⟨n, hn⟩ : ∃ n, n = mid + m := ⟨_, rfl⟩
   have hnz : (mid : Int) + (m : Int) = (n : Int) := by omega
   have n1 : n ≤ mid + m := by omega
   have n2 : mid + m ≤ n := by omega
   clear hn
   go_enter L.fM, Try.ntmps87
   go_upto_if 140 with fail
   go_cut [20, 21] from 140 to 146 (fun s20 s21 wx => ∃ (s0 r0 : Nat), s20 = .int .i64 s0 ∧ s21 = .int .i64 r0 ∧ a ≤ s0 ∧ s0 ≤ r0 ∧ r0 ≤ m ∧ n ≤ s0 + b ∧ m + r0 ≤ n ∧ Aside (s0 = a ∨ n = s0 + b) ∧ Aside (r0 = m ∨ n = r0 + m) ∧ wx = w)
   case first =>
    by_cases hc : mid < m
    · have hcz : (mid : Int) < (m : Int) := by omega
      go_wp2_with fail
      go_meet
      case rel => exact ⟨n - b, mid, by go_num, rfl, by omega, by omega, by omega, by omega, by omega, Or.inr (by omega), Or.inr (by omega), rfl⟩
    · have hcz : ¬ (mid : Int) < (m : Int) := by omega
      go_wp2_with fail
      go_meet
      case rel => exact ⟨a, m, rfl, rfl, by omega, by omega, by omega, by omega, by omega, Or.inl rfl, Or.inl rfl, rfl⟩
   case rest =>
    obtain ⟨s0, r0, rfl, rfl, c1, c2, c3, c4, c5, CS, CR, rfl⟩ := hcut
    go_wp2_with fail
    go_loopg [20, 21] (r0 - s0) (fun kx s20 s21 wr => ∃ (st r : Nat), s20 = .int .i64 st ∧ s21 = .int .i64 r ∧ s0 ≤ st ∧ st ≤ r ∧ r ≤ r0 ∧ r - st ≤ kx ∧ Aside (st = s0 ∨ ltOf cf d[n - st]! d[st - 1]! = false) ∧ Aside (r = r0 ∨ ltOf cf d[n - 1 - r]! d[r]! = true) ∧ Aside (SWK enc k w0 blk off d wr))
    case atStart => exact ⟨s0, r0, rfl, rfl, by omega, by omega, by omega, by omega, Or.inl rfl, Or.inl rfl, S0⟩
    case round =>
     clear S0
     obtain ⟨st, r, rfl, rfl, t1, t2, t3, hkx, HL, HG, S1⟩ := hrel
     by_cases hlt : st < r
     · have hltz : (st : Int) < (r : Int) := by omega
       obtain ⟨c, hh⟩ : ∃ c, c = (st + r) / 2 := ⟨_, rfl⟩
       have hz : ((st : Int) + (r : Int)) / 2 = (c : Int) := by omega
       have hh1 : st ≤ c := by omega
       have hh2 : c < r := by omega
       clear hh
       obtain ⟨y, hy⟩ : ∃ y, y = n - 1 - c := ⟨_, rfl⟩
       have hyz : (n : Int) - 1 - (c : Int) = (y : Int) := by omega
       have y1 : y + 1 + c ≤ n := by omega
       have y2 : n ≤ y + 1 + c := by omega
       clear hy
       cases hL : ltOf cf d[y]! d[c]! with
       | true =>
         have ea1 : ((y : Int)).toNat = y := by omega
         have pa1 : (0 : Int) ≤ (y : Int) := by omega
         have ba1 : (y : Int) < (d.size : Int) := by omega
         have ra1 : IntKind.i64.wrap ((y : Int)) = (y : Int) := by rw [IntKind.wrap_i64]; omega
         have ec1 : ((c : Int)).toNat = c := by omega
         have pc1 : (0 : Int) ≤ (c : Int) := by omega
         have bc1 : (c : Int) < (d.size : Int) := by omega
         have rc1 : IntKind.i64.wrap ((c : Int)) = (c : Int) := by rw [IntKind.wrap_i64]; omega
         obtain ⟨x1, hx1⟩ : ∃ x, x = d[y]! := ⟨_, rfl⟩
         obtain ⟨y1, hy1⟩ : ∃ x, x = d[c]! := ⟨_, rfl⟩
         have l1a := S1.out.ld R (by omega) P (y) (by omega)
         have l1b := S1.out.ld R (by omega) P (c) (by omega)
         rw [← hx1] at l1a
         rw [← hy1] at l1b
         have hc1 := S1.out.cmp HC.out (by omega) x1 y1
         have hv1 : cf x1 y1 < 0 := by rw [hx1, hy1]; exact of_decide_eq_true hL
         have hd1 : decide (cf x1 y1 < 0) = true := decide_eq_true hv1
         clear hx1 hy1
         go_wp2_with fail
         go_quiet_grown (first | (go_at_fn g; refine Calls.grown_of (hc1 _ _)))
         have S2 : Aside (SWK enc k w0 blk off d (grow (wr.drewN nq) osq)) := S1.out.grown nq osq
         clear l1a l1b hc1 S1
         generalize grow (wr.drewN nq) osq = w2 at S2 ⊢
         clear nq osq
         go_wp2_with fail
         go_roundg (c - st)
         case measure => omega
         case rel => exact ⟨st, c, rfl, rfl, t1, hh1, by omega, Nat.le_refl _, HL, Or.inr (by rw [show n - 1 - c = y by omega]; exact hL), S2⟩
       | false =>
         have ea2 : ((y : Int)).toNat = y := by omega
         have pa2 : (0 : Int) ≤ (y : Int) := by omega
         have ba2 : (y : Int) < (d.size : Int) := by omega
         have ra2 : IntKind.i64.wrap ((y : Int)) = (y : Int) := by rw [IntKind.wrap_i64]; omega
         have ec2 : ((c : Int)).toNat = c := by omega
         have pc2 : (0 : Int) ≤ (c : Int) := by omega
         have bc2 : (c : Int) < (d.size : Int) := by omega
         have rc2 : IntKind.i64.wrap ((c : Int)) = (c : Int) := by rw [IntKind.wrap_i64]; omega
         obtain ⟨x2, hx2⟩ : ∃ x, x = d[y]! := ⟨_, rfl⟩
         obtain ⟨y2, hy2⟩ : ∃ x, x = d[c]! := ⟨_, rfl⟩
         have l2a := S1.out.ld R (by omega) P (y) (by omega)
         have l2b := S1.out.ld R (by omega) P (c) (by omega)
         rw [← hx2] at l2a
         rw [← hy2] at l2b
         have hc2 := S1.out.cmp HC.out (by omega) x2 y2
         have hv2 : ¬ cf x2 y2 < 0 := by rw [hx2, hy2]; exact of_decide_eq_false hL
         have hd2 : decide (cf x2 y2 < 0) = false := decide_eq_false hv2
         clear hx2 hy2
         go_wp2_with fail
         go_quiet_grown (first | (go_at_fn g; refine Calls.grown_of (hc2 _ _)))
         have S2 : Aside (SWK enc k w0 blk off d (grow (wr.drewN nq) osq)) := S1.out.grown nq osq
         clear l2a l2b hc2 S1
         generalize grow (wr.drewN nq) osq = w2 at S2 ⊢
         clear nq osq
         go_wp2_with fail
         go_roundg (r - (c + 1))
         case measure => omega
         case rel => exact ⟨c + 1, r, by go_num, rfl, by omega, by omega, t3, Nat.le_refl _, Or.inr (by rw [show n - (c + 1) = y by omega, show c + 1 - 1 = c by omega]; exact hL), HG, S2⟩
     · have hltz : ¬ (st : Int) < (r : Int) := by omega
       obtain rfl : st = r := by omega
       obtain ⟨e, he⟩ : ∃ e, e = n - st := ⟨_, rfl⟩
       have hez : (n : Int) - (st : Int) = (e : Int) := by omega
       have e1 : n ≤ e + st := by omega
       have e2 : e + st ≤ n := by omega
       clear he
       have HLo : Aside (a < st → e < b → ltOf cf d[e]! d[st - 1]! = false) := fun x1 x2 => by
        rcases HL.out with h | h
        · rcases CS.out with g | g <;> omega
        · rw [show n - st = e by omega] at h; exact h
       have HHi : Aside (st < m → m < e → ltOf cf d[e - 1]! d[st]! = true) := fun x1 x2 => by
        rcases HG.out with h | h
        · rcases CR.out with g | g <;> omega
        · rw [show n - 1 - st = e - 1 by omega] at h; exact h
       clear HL HG CS CR
       -- rotate
       go_upto_region 39 with fail
       go_cut [185] from 178 to 185 (fun s wx => ∃ B : Bool, s = .bool B ∧ Aside (B = decide (st < m ∧ m < e)) ∧ wx = wr)
       case first =>
        by_cases x1 : st < m
        · have x1z : (st : Int) < (m : Int) := by omega
          by_cases x2 : m < e
          · have x2z : (m : Int) < (e : Int) := by omega
            go_wp2_with fail
            go_meet
            case rel => exact ⟨true, rfl, (show _ = _ by rw [decide_eq_true ⟨x1, x2⟩]), rfl⟩
          · have x2z : ¬ (m : Int) < (e : Int) := by omega
            go_wp2_with fail
            go_meet
            case rel => exact ⟨false, rfl, (show _ = _ by rw [decide_eq_false (fun h => x2 h.2)]), rfl⟩
        · have x1z : ¬ (st : Int) < (m : Int) := by omega
          go_wp2_with fail
          go_meet
          case rel => exact ⟨false, rfl, (show _ = _ by rw [decide_eq_false (fun h => x1 h.1)]), rfl⟩
       case rest =>
        obtain ⟨B, rfl, HBB, rfl⟩ := hcut
        go_upto_if 185 with fail
        go_cut [] from 185 to 191 (fun wx => ∃ d1 : Array α, d1.size = d.size ∧ Aside (Rot st m e d d1) ∧ Aside (SWK enc k w0 blk off d1 wx))
        case first =>
         cases B
         rotate_left
         · have x := of_decide_eq_true (HBB.out : true = decide (st < m ∧ m < e)).symm
           have hro := rotate L k aE zE enc g cb blk off cap st m e d0 d w0 wc R hs S1.out x.1 x.2 (by omega) hsz
           clear x
           go_wp2_with fail
           refine hro.mono ?_
           rintro _ w3 ⟨rfl, d1, hR, S2⟩
           go_wp2_with fail
           go_meet
           case rel => exact ⟨d1, hR.1, hR, S2⟩
         · have x := of_decide_eq_false (HBB.out : false = decide (st < m ∧ m < e)).symm
           have hR : Aside (Rot st m e d d) := by
            by_cases y : st = m
            · rw [y]; exact Rot.nil1 m e d
            · rw [show e = m by omega]; exact Rot.nil2 st m d
           clear x
           go_wp2_with fail
           go_meet
           case rel => exact ⟨d, rfl, hR, S1⟩
        case rest =>
         clear S1
         obtain ⟨d1, z1, HR, S1⟩ := hcut
         obtain ⟨p1, p2, p3, p4⟩ := rot_parts (lt := ltOf cf) (start := st) (e := e) (mid := mid) (by omega) (by omega) (by omega) (by omega) (by omega) HAB.out.1 HAB.out.2 HR.out
         have P1 : Aside (SortedIn (ltOf cf) a st d1) := p1
         have P2 : Aside (SortedIn (ltOf cf) st mid d1) := p2
         have P3 : Aside (SortedIn (ltOf cf) mid e d1) := p3
         have P4 : Aside (SortedIn (ltOf cf) e b d1) := p4
         clear p1 p2 p3 p4
         -- the left side
         go_upto_region 41 with fail
         go_cut [199] from 192 to 199 (fun s wx => ∃ B : Bool, s = .bool B ∧ Aside (B = decide (a < st ∧ st < mid)) ∧ wx = wc)
         case first =>
          by_cases x1 : a < st
          · have x1z : (a : Int) < (st : Int) := by omega
            by_cases x2 : st < mid
            · have x2z : (st : Int) < (mid : Int) := by omega
              go_wp2_with fail
              go_meet
              case rel => exact ⟨true, rfl, (show _ = _ by rw [decide_eq_true ⟨x1, x2⟩]), rfl⟩
            · have x2z : ¬ (st : Int) < (mid : Int) := by omega
              go_wp2_with fail
              go_meet
              case rel => exact ⟨false, rfl, (show _ = _ by rw [decide_eq_false (fun h => x2 h.2)]), rfl⟩
          · have x1z : ¬ (a : Int) < (st : Int) := by omega
            go_wp2_with fail
            go_meet
            case rel => exact ⟨false, rfl, (show _ = _ by rw [decide_eq_false (fun h => x1 h.1)]), rfl⟩
         case rest =>
          obtain ⟨B, rfl, HBB, rfl⟩ := hcut
          go_upto_if 199 with fail
          go_cut [] from 199 to 205 (fun wx => ∃ d2 : Array α, d2.size = d.size ∧ Aside (Srt (ltOf cf) a mid d1 d2) ∧ Aside (SWK enc k w0 blk off d2 wx))
          case first =>
           cases B
           rotate_left
           · have x := of_decide_eq_true (HBB.out : true = decide (a < st ∧ st < mid)).symm
             have hro := IH.out a st mid d1 _ (by omega) (by omega) S1.out x.1 x.2 (by omega) (by omega) P1.out P2.out
             rw [z1] at hro
             clear x
             go_wp2_with fail
             refine hro.mono ?_
             rintro _ w4 ⟨rfl, d2, hR, S2⟩
             go_wp2_with fail
             go_meet
             case rel => exact ⟨d2, hR.size.trans z1, hR, S2⟩
           · have x := of_decide_eq_false (HBB.out : false = decide (a < st ∧ st < mid)).symm
             have hR : Aside (Srt (ltOf cf) a mid d1 d1) := Srt.self (by
              by_cases y : st = a
              · have := P2.out; rwa [y] at this
              · have := P1.out; rwa [show st = mid by omega] at this)
             clear x
             go_wp2_with fail
             go_meet
             case rel => exact ⟨d1, z1, hR, S1⟩
          case rest =>
           clear S1
           obtain ⟨d2, z2, HM, S1⟩ := hcut
           have P5 : Aside (SortedIn (ltOf cf) mid e d2) := HM.out.keep P3.out (Or.inl (Nat.le_refl _))
           have P6 : Aside (SortedIn (ltOf cf) e b d2) := HM.out.keep P4.out (Or.inl (by omega))
           clear P1 P2 P3 P4
           by_cases x1 : mid < e
           · have x1z : (mid : Int) < (e : Int) := by omega
             by_cases x2 : e < b
             · have x2z : (e : Int) < (b : Int) := by omega
               have hro := IH.out mid e b d2 wc (by omega) (by omega) S1.out x1 x2 (by omega) (by omega) P5.out P6.out
               rw [z2] at hro
               go_wp2_with fail
               refine hro.mono ?_
               rintro _ w5 ⟨rfl, d3, hR, S2⟩
               go_wp2_with fail
               go_end0
               exact ⟨rfl, d3, srt_merge hO (by omega) (by omega) (by omega) (by omega) hb (by omega) HAB.out.1 HAB.out.2 HLo.out HHi.out HR.out HM.out hR, S2⟩
             · have x2z : ¬ (e : Int) < (b : Int) := by omega
               go_wp2_with fail
               go_end0
               exact ⟨rfl, d2, srt_merge hO (by omega) (by omega) (by omega) (by omega) hb (by omega) HAB.out.1 HAB.out.2 HLo.out HHi.out HR.out HM.out (Srt.self (by have := P5.out; rwa [show e = b by omega] at this)), S1.out⟩
           · have x1z : ¬ (mid : Int) < (e : Int) := by omega
             go_wp2_with fail
             go_end0
             exact ⟨rfl, d2, srt_merge hO (by omega) (by omega) (by omega) (by omega) hb (by omega) HAB.out.1 HAB.out.2 HLo.out HHi.out HR.out HM.out (Srt.self (by have := P6.out; rwa [show e = mid by omega] at this)), S1.out⟩
end
end Go.Proofs.Ytamhfjlffacakaa.St

/-
  A text of this claim: StMerge.
-/
import Derived.Test.YtamhfjlffacakaaQ2
namespace Go.Proofs.Ytamhfjlffacakaa.St
open Go.Proofs Go.RowKit Go.Shelf Go.Lib Go.Sort
section
variable {P : Program} {α : Type} [Inhabited α]
set_option maxHeartbeats 8000000 in
set_option maxRecDepth 1000000 in
theorem mergeFirst (L : StL P) (k : Nat) (aE : ∀ w, (isAgg 35).run P w = .ok true w) (zE : ∀ w, (Go.sizeOf 35).run P w = .ok k w) (enc : α → List Value) (cf : α → α → Int) (g : Nat) (cb : Array Value) (blk off cap : Nat) (d0 : Array α) (w0 : World) (hO : SWO (ltOf cf))
 (eg : ∀ args w, (callFunc g args).run P w = .ok (.enter g args) w) (hcmp : CmpLays P g cb enc k cf blk off d0.size w0) (R : RowK enc k w0 blk off d0) (a b : Nat) (d : Array α) (w : World)
 (hs : d0.size = d.size) (S : SWK enc k w0 blk off d w) (hmb : a + 1 < b) (hb : b ≤ d.size) (hsz : d.size < 4611686018427387904) (hB : SortedIn (ltOf cf) (a + 1) b d) :
 Calls P 87 #[.slice (some ⟨blk, off, none⟩) d.size cap, .int .i64 a, .int .i64 ((a + 1 : Nat) : Int), .int .i64 b, .func (.func g) #[] cb] w fun e w' => e = .returned (.tuple #[]) ∧ ∃ d', Srt (ltOf cf) a b d d' ∧ SWK enc k w0 blk off d' w' := by
 have mixed := L.mixed
 have t0 := L.t0
 have a0 := L.a0
 have z0 := L.z0
 have v0 := L.v0
 have t3 := L.t3
 have a3 := L.a3
 have z3 := L.z3
 have v3 := L.v3
 have t4 := L.t4
 have a4 := L.a4
 have z4 := L.z4
 have v4 := L.v4
 have t22 := L.t22
 have a22 := L.a22
 have z22 := L.z22
 have v22 := L.v22
 have t25 := L.t25
 have a25 := L.a25
 have z25 := L.z25
 have v25 := L.v25
 have tu := L.tu
 have au := L.au
 have zu := L.zu
 have vu := L.vu
 have HC : Aside _ := hcmp
 have S0 : Aside (SWK enc k w0 blk off d w) := S
 clear hcmp S
 have HB : Aside (SortedIn (ltOf cf) (a + 1) b d) := hB
 clear hB
 obtain ⟨m, hm⟩ : ∃ m, m = a + 1 := ⟨_, rfl⟩
 rw [← hm]
 have hm1 : m ≤ a + 1 := by omega
 have hm2 : a + 1 ≤ m := by omega
 clear hm
 have q1 : ((m : Int) - (a : Int) == 1) = true := by rw [beq_iff_eq]; omega
 go_enter L.fM, Try.ntmps87
 go_wp2
 go_loopg [10, 11] (b - m) (fun kx s10 s11 wr => ∃ (i j : Nat), s10 = .int .i64 i ∧ s11 = .int .i64 j ∧ m ≤ i ∧ i ≤ j ∧ j ≤ b ∧ j - i ≤ kx ∧ Aside (∀ x, m ≤ x → x < i → ltOf cf d[x]! d[a]! = true) ∧ Aside (∀ x, j ≤ x → x < b → ltOf cf d[x]! d[a]! = false) ∧ Aside (SWK enc k w0 blk off d wr))
 case atStart => exact ⟨m, b, rfl, rfl, by omega, by omega, by omega, by omega, fun x h1 h2 => by omega, fun x h1 h2 => by omega, S0⟩
 case round =>
  clear S0
  obtain ⟨i, j, rfl, rfl, hmi, hij, hjb, hkx, HL, HG, S1⟩ := hrel
  by_cases hlt : i < j
  · have hltz : (i : Int) < (j : Int) := by omega
    obtain ⟨h, hh⟩ : ∃ h, h = (i + j) / 2 := ⟨_, rfl⟩
    have hz : ((i : Int) + (j : Int)) / 2 = (h : Int) := by omega
    have hh1 : i ≤ h := by omega
    have hh2 : h < j := by omega
    clear hh
    cases hL : ltOf cf d[h]! d[a]! with
    | true =>
      have ea1 : ((h : Int)).toNat = h := by omega
      have pa1 : (0 : Int) ≤ (h : Int) := by omega
      have ba1 : (h : Int) < (d.size : Int) := by omega
      have ra1 : IntKind.i64.wrap ((h : Int)) = (h : Int) := by rw [IntKind.wrap_i64]; omega
      have ec1 : ((a : Int)).toNat = a := by omega
      have pc1 : (0 : Int) ≤ (a : Int) := by omega
      have bc1 : (a : Int) < (d.size : Int) := by omega
      have rc1 : IntKind.i64.wrap ((a : Int)) = (a : Int) := by rw [IntKind.wrap_i64]; omega
      obtain ⟨x1, hx1⟩ : ∃ x, x = d[h]! := ⟨_, rfl⟩
      obtain ⟨y1, hy1⟩ : ∃ x, x = d[a]! := ⟨_, rfl⟩
      have l1a := S1.out.ld R (by omega) P (h) (by omega)
      have l1b := S1.out.ld R (by omega) P (a) (by omega)
      rw [← hx1] at l1a
      rw [← hy1] at l1b
      have hc1 := S1.out.cmp HC.out (by omega) x1 y1
      have hv1 : cf x1 y1 < 0 := by rw [hx1, hy1]; exact of_decide_eq_true hL
      have hd1 : decide (cf x1 y1 < 0) = true := decide_eq_true hv1
      clear hx1 hy1
      go_wp2_with fail
      go_quiet_grown (first | (go_at_fn g; refine Calls.grown_of (hc1 _ _)))
      have S2 : Aside (SWK enc k w0 blk off d (grow (wr.drewN nq) osq)) := S1.out.grown nq osq
      clear l1a l1b hc1 S1
      generalize grow (wr.drewN nq) osq = w2 at S2 ⊢
      clear nq osq
      go_wp2_with fail
      go_roundg (j - (h + 1))
      case measure => omega
      case rel => exact ⟨h + 1, j, by go_num, rfl, by omega, by omega, hjb, Nat.le_refl _, fun x h1 h2 => by
       by_cases hx : x < i
       · exact HL.out x h1 hx
       · cases hc : ltOf cf d[x]! d[a]! with
         | true => rfl
         | false => exact absurd (hO.ntrans _ _ _ (si_le HB.out hO (show a + 1 ≤ x by omega) (show x ≤ h by omega) (by omega)) hc) (by rw [hL]; simp), HG, S2⟩
    | false =>
      have ea2 : ((h : Int)).toNat = h := by omega
      have pa2 : (0 : Int) ≤ (h : Int) := by omega
      have ba2 : (h : Int) < (d.size : Int) := by omega
      have ra2 : IntKind.i64.wrap ((h : Int)) = (h : Int) := by rw [IntKind.wrap_i64]; omega
      have ec2 : ((a : Int)).toNat = a := by omega
      have pc2 : (0 : Int) ≤ (a : Int) := by omega
      have bc2 : (a : Int) < (d.size : Int) := by omega
      have rc2 : IntKind.i64.wrap ((a : Int)) = (a : Int) := by rw [IntKind.wrap_i64]; omega
      obtain ⟨x2, hx2⟩ : ∃ x, x = d[h]! := ⟨_, rfl⟩
      obtain ⟨y2, hy2⟩ : ∃ x, x = d[a]! := ⟨_, rfl⟩
      have l2a := S1.out.ld R (by omega) P (h) (by omega)
      have l2b := S1.out.ld R (by omega) P (a) (by omega)
      rw [← hx2] at l2a
      rw [← hy2] at l2b
      have hc2 := S1.out.cmp HC.out (by omega) x2 y2
      have hv2 : ¬ cf x2 y2 < 0 := by rw [hx2, hy2]; exact of_decide_eq_false hL
      have hd2 : decide (cf x2 y2 < 0) = false := decide_eq_false hv2
      clear hx2 hy2
      go_wp2_with fail
      go_quiet_grown (first | (go_at_fn g; refine Calls.grown_of (hc2 _ _)))
      have S2 : Aside (SWK enc k w0 blk off d (grow (wr.drewN nq) osq)) := S1.out.grown nq osq
      clear l2a l2b hc2 S1
      generalize grow (wr.drewN nq) osq = w2 at S2 ⊢
      clear nq osq
      go_wp2_with fail
      go_roundg (h - i)
      case measure => omega
      case rel => exact ⟨i, h, rfl, rfl, hmi, by omega, by omega, Nat.le_refl _, HL, fun x h1 h2 => by
       exact hO.ntrans _ _ _ (si_le HB.out hO (show a + 1 ≤ h by omega) h1 (by omega)) hL, S2⟩
  · have hltz : ¬ (i : Int) < (j : Int) := by omega
    obtain rfl : i = j := by omega
    go_wp2_with fail
    go_loopg [13] (i - m) (fun kx s13 wx => ∃ (x : Nat) (dk : Array α), s13 = .int .i64 x ∧ a ≤ x ∧ x < i ∧ i - 1 - x ≤ kx ∧ dk.size = d.size ∧ Aside (Rot a (a + 1) (x + 1) d dk) ∧ Aside (SWK enc k w0 blk off dk wx))
    case atStart => exact ⟨a, d, rfl, by omega, by omega, by omega, rfl, Rot.nil2 a (a + 1) d, S1⟩
    case round =>
     clear S1
     obtain ⟨x, dk, rfl, hax, hxi, hkx, hds, HR, S1⟩ := hrel
     by_cases hx1 : x + 1 < i
     · have hx1z : (x : Int) < (i : Int) - 1 := by omega
       go_wp2_with fail
       have ea3 : ((x : Int)).toNat = x := by omega
       have pa3 : (0 : Int) ≤ (x : Int) := by omega
       have ba3 : (x : Int) < (d.size : Int) := by omega
       have ra3 : IntKind.i64.wrap ((x : Int)) = (x : Int) := by rw [IntKind.wrap_i64]; omega
       have ec3 : ((x : Int) + 1).toNat = x + 1 := by omega
       have pc3 : (0 : Int) ≤ (x : Int) + 1 := by omega
       have bc3 : (x : Int) + 1 < (d.size : Int) := by omega
       have rc3 : IntKind.i64.wrap ((x : Int) + 1) = (x : Int) + 1 := by rw [IntKind.wrap_i64]; omega
       have S2 : Aside (SWK enc k w0 blk off (swp dk (x) (x + 1)) ((wr.drew.setCells blk (off + (x) * k) (enc dk[x + 1]!)).setCells blk (off + (x + 1) * k) (enc dk[x]!))) := S1.out.swapped R (x) (x + 1) (by omega) (by omega)
       have l3a := S1.out.ld1 R (by omega) P (x) (by omega)
       have l3b := S1.out.ld1 R (by omega) P (x + 1) (by omega)
       have s3a := S1.out.st1 R (by omega) P (x) (by omega) dk[x + 1]!
       have s3b := S1.out.st2 R (by omega) P (x) (x + 1) (by omega) (by omega) dk[x + 1]! dk[x]!
       have n3a : (enc dk[x]!).length = k := R.hk _
       have n3b : (enc dk[x + 1]!).length = k := R.hk _
       generalize enc dk[x]! = cI3 at S2 l3a s3b n3a
       generalize enc dk[x + 1]! = cJ3 at S2 l3b s3a s3b n3b
       clear S1
       go_wp2_with fail
       go_big_region_o
       clear l3a l3b s3a s3b
       generalize (wr.drew.setCells blk (off + (x) * k) cJ3).setCells blk (off + (x + 1) * k) cI3 = w3 at S2 ⊢
       go_wp2
       go_roundg (i - 1 - (x + 1))
       case measure => omega
       case rel => exact ⟨x + 1, swp dk x (x + 1), by go_num, by omega, by omega, Nat.le_refl _, by rw [size_swp]; exact hds, HR.out.right (by omega) (by omega), S2⟩
     · have hx1z : ¬ (x : Int) < (i : Int) - 1 := by omega
       obtain rfl : i = x + 1 := by omega
       go_wp2_with fail
       (try simp only [Exit.inBlock, Exit.then]); refine bodyPost_ret (results_none rfl _ _ _) rfl ?_
       exact ⟨rfl, dk, srt_first hO (by omega) (by omega) hb HB.out (fun y h1 h2 => HL.out y (by omega) h2) HG.out HR.out, S1.out⟩
set_option maxHeartbeats 8000000 in
set_option maxRecDepth 1000000 in
theorem mergeLast (L : StL P) (k : Nat) (aE : ∀ w, (isAgg 35).run P w = .ok true w) (zE : ∀ w, (Go.sizeOf 35).run P w = .ok k w) (enc : α → List Value) (cf : α → α → Int) (g : Nat) (cb : Array Value) (blk off cap : Nat) (d0 : Array α) (w0 : World) (hO : SWO (ltOf cf))
 (eg : ∀ args w, (callFunc g args).run P w = .ok (.enter g args) w) (hcmp : CmpLays P g cb enc k cf blk off d0.size w0) (R : RowK enc k w0 blk off d0) (a m : Nat) (d : Array α) (w : World)
 (hs : d0.size = d.size) (S : SWK enc k w0 blk off d w) (ham : a + 1 < m) (hb : m < d.size) (hsz : d.size < 4611686018427387904) (hA : SortedIn (ltOf cf) a m d) :
 Calls P 87 #[.slice (some ⟨blk, off, none⟩) d.size cap, .int .i64 a, .int .i64 m, .int .i64 ((m + 1 : Nat) : Int), .func (.func g) #[] cb] w fun e w' => e = .returned (.tuple #[]) ∧ ∃ d', Srt (ltOf cf) a (m + 1) d d' ∧ SWK enc k w0 blk off d' w' := by
 have mixed := L.mixed
 have t0 := L.t0
 have a0 := L.a0
 have z0 := L.z0
 have v0 := L.v0
 have t3 := L.t3
 have a3 := L.a3
 have z3 := L.z3
 have v3 := L.v3
 have t4 := L.t4
 have a4 := L.a4
 have z4 := L.z4
 have v4 := L.v4
 have t22 := L.t22
 have a22 := L.a22
 have z22 := L.z22
 have v22 := L.v22
 have t25 := L.t25
 have a25 := L.a25
 have z25 := L.z25
 have v25 := L.v25
 have tu := L.tu
 have au := L.au
 have zu := L.zu
 have vu := L.vu
 have HC : Aside _ := hcmp
 have S0 : Aside (SWK enc k w0 blk off d w) := S
 clear hcmp S
 have HA : Aside (SortedIn (ltOf cf) a m d) := hA
 clear hA
 obtain ⟨b, hm⟩ : ∃ b, b = m + 1 := ⟨_, rfl⟩
 rw [← hm]
 have hm1 : b ≤ m + 1 := by omega
 have hm2 : m + 1 ≤ b := by omega
 clear hm
 have q1 : ((m : Int) - (a : Int) == 1) = false := by rw [beq_eq_false_iff_ne]; omega
 have q2 : ((b : Int) - (m : Int) == 1) = true := by rw [beq_iff_eq]; omega
 go_enter L.fM, Try.ntmps87
 go_wp2
 go_loopg [14, 15] (m - a) (fun kx s14 s15 wr => ∃ (i j : Nat), s14 = .int .i64 i ∧ s15 = .int .i64 j ∧ a ≤ i ∧ i ≤ j ∧ j ≤ m ∧ j - i ≤ kx ∧ Aside (∀ x, a ≤ x → x < i → ltOf cf d[m]! d[x]! = false) ∧ Aside (∀ x, j ≤ x → x < m → ltOf cf d[m]! d[x]! = true) ∧ Aside (SWK enc k w0 blk off d wr))
 case atStart => exact ⟨a, m, rfl, rfl, by omega, by omega, by omega, by omega, fun x h1 h2 => by omega, fun x h1 h2 => by omega, S0⟩
 case round =>
  clear S0
  obtain ⟨i, j, rfl, rfl, hmi, hij, hjb, hkx, HL, HG, S1⟩ := hrel
  by_cases hlt : i < j
  · have hltz : (i : Int) < (j : Int) := by omega
    obtain ⟨h, hh⟩ : ∃ h, h = (i + j) / 2 := ⟨_, rfl⟩
    have hz : ((i : Int) + (j : Int)) / 2 = (h : Int) := by omega
    have hh1 : i ≤ h := by omega
    have hh2 : h < j := by omega
    clear hh
    cases hL : ltOf cf d[m]! d[h]! with
    | true =>
      have ea1 : ((m : Int)).toNat = m := by omega
      have pa1 : (0 : Int) ≤ (m : Int) := by omega
      have ba1 : (m : Int) < (d.size : Int) := by omega
      have ra1 : IntKind.i64.wrap ((m : Int)) = (m : Int) := by rw [IntKind.wrap_i64]; omega
      have ec1 : ((h : Int)).toNat = h := by omega
      have pc1 : (0 : Int) ≤ (h : Int) := by omega
      have bc1 : (h : Int) < (d.size : Int) := by omega
      have rc1 : IntKind.i64.wrap ((h : Int)) = (h : Int) := by rw [IntKind.wrap_i64]; omega
      obtain ⟨x1, hx1⟩ : ∃ x, x = d[m]! := ⟨_, rfl⟩
      obtain ⟨y1, hy1⟩ : ∃ x, x = d[h]! := ⟨_, rfl⟩
      have l1a := S1.out.ld R (by omega) P (m) (by omega)
      have l1b := S1.out.ld R (by omega) P (h) (by omega)
      rw [← hx1] at l1a
      rw [← hy1] at l1b
      have hc1 := S1.out.cmp HC.out (by omega) x1 y1
      have hv1 : cf x1 y1 < 0 := by rw [hx1, hy1]; exact of_decide_eq_true hL
      have hd1 : decide (cf x1 y1 < 0) = true := decide_eq_true hv1
      clear hx1 hy1
      go_wp2_with fail
      go_quiet_grown (first | (go_at_fn g; refine Calls.grown_of (hc1 _ _)))
      have S2 : Aside (SWK enc k w0 blk off d (grow (wr.drewN nq) osq)) := S1.out.grown nq osq
      clear l1a l1b hc1 S1
      generalize grow (wr.drewN nq) osq = w2 at S2 ⊢
      clear nq osq
      go_wp2_with fail
      go_roundg (h - i)
      case measure => omega
      case rel => exact ⟨i, h, rfl, rfl, hmi, by omega, by omega, Nat.le_refl _, HL, fun x h1 h2 => by
       cases hc : ltOf cf d[m]! d[x]! with
       | true => rfl
       | false => exact absurd (hO.ntrans _ _ _ hc (si_le HA.out hO (show a ≤ h by omega) h1 h2)) (by rw [hL]; simp), S2⟩
    | false =>
      have ea2 : ((m : Int)).toNat = m := by omega
      have pa2 : (0 : Int) ≤ (m : Int) := by omega
      have ba2 : (m : Int) < (d.size : Int) := by omega
      have ra2 : IntKind.i64.wrap ((m : Int)) = (m : Int) := by rw [IntKind.wrap_i64]; omega
      have ec2 : ((h : Int)).toNat = h := by omega
      have pc2 : (0 : Int) ≤ (h : Int) := by omega
      have bc2 : (h : Int) < (d.size : Int) := by omega
      have rc2 : IntKind.i64.wrap ((h : Int)) = (h : Int) := by rw [IntKind.wrap_i64]; omega
      obtain ⟨x2, hx2⟩ : ∃ x, x = d[m]! := ⟨_, rfl⟩
      obtain ⟨y2, hy2⟩ : ∃ x, x = d[h]! := ⟨_, rfl⟩
      have l2a := S1.out.ld R (by omega) P (m) (by omega)
      have l2b := S1.out.ld R (by omega) P (h) (by omega)
      rw [← hx2] at l2a
      rw [← hy2] at l2b
      have hc2 := S1.out.cmp HC.out (by omega) x2 y2
      have hv2 : ¬ cf x2 y2 < 0 := by rw [hx2, hy2]; exact of_decide_eq_false hL
      have hd2 : decide (cf x2 y2 < 0) = false := decide_eq_false hv2
      clear hx2 hy2
      go_wp2_with fail
      go_quiet_grown (first | (go_at_fn g; refine Calls.grown_of (hc2 _ _)))
      have S2 : Aside (SWK enc k w0 blk off d (grow (wr.drewN nq) osq)) := S1.out.grown nq osq
      clear l2a l2b hc2 S1
      generalize grow (wr.drewN nq) osq = w2 at S2 ⊢
      clear nq osq
      go_wp2_with fail
      go_roundg (j - (h + 1))
      case measure => omega
      case rel => exact ⟨h + 1, j, by go_num, rfl, by omega, by omega, hjb, Nat.le_refl _, fun x h1 h2 => by
       exact hO.ntrans _ _ _ hL (si_le HA.out hO h1 (show x ≤ h by omega) (by omega)), HG, S2⟩
  · have hltz : ¬ (i : Int) < (j : Int) := by omega
    obtain rfl : i = j := by omega
    go_wp2_with fail
    go_loopg [17] (m - i) (fun kx s17 wx => ∃ (x : Nat) (dk : Array α), s17 = .int .i64 x ∧ i ≤ x ∧ x ≤ m ∧ x - i ≤ kx ∧ dk.size = d.size ∧ Aside (Rot x m (m + 1) d dk) ∧ Aside (SWK enc k w0 blk off dk wx))
    case atStart => exact ⟨m, d, rfl, by omega, by omega, by omega, rfl, Rot.nil1 m (m + 1) d, S1⟩
    case round =>
     clear S1
     obtain ⟨x, dk, rfl, hix, hxm, hkx, hds, HR, S1⟩ := hrel
     by_cases hx1 : i < x
     · obtain ⟨y, rfl⟩ : ∃ y, x = y + 1 := ⟨x - 1, by omega⟩
       have hx1z : (i : Int) < ((y + 1 : Nat) : Int) := by omega
       have hx2z : (i : Int) < (y : Int) + 1 := by omega
       go_wp2_with fail
       have ea3 : ((y : Int) + 1).toNat = y + 1 := by omega
       have pa3 : (0 : Int) ≤ (y : Int) + 1 := by omega
       have ba3 : (y : Int) + 1 < (d.size : Int) := by omega
       have ra3 : IntKind.i64.wrap ((y : Int) + 1) = (y : Int) + 1 := by rw [IntKind.wrap_i64]; omega
       have ec3 : ((y : Int)).toNat = y := by omega
       have pc3 : (0 : Int) ≤ (y : Int) := by omega
       have bc3 : (y : Int) < (d.size : Int) := by omega
       have rc3 : IntKind.i64.wrap ((y : Int)) = (y : Int) := by rw [IntKind.wrap_i64]; omega
       have S2 : Aside (SWK enc k w0 blk off (swp dk (y + 1) (y)) ((wr.drew.setCells blk (off + (y + 1) * k) (enc dk[y]!)).setCells blk (off + (y) * k) (enc dk[y + 1]!))) := S1.out.swapped R (y + 1) (y) (by omega) (by omega)
       have l3a := S1.out.ld1 R (by omega) P (y + 1) (by omega)
       have l3b := S1.out.ld1 R (by omega) P (y) (by omega)
       have s3a := S1.out.st1 R (by omega) P (y + 1) (by omega) dk[y]!
       have s3b := S1.out.st2 R (by omega) P (y + 1) (y) (by omega) (by omega) dk[y]! dk[y + 1]!
       have n3a : (enc dk[y + 1]!).length = k := R.hk _
       have n3b : (enc dk[y]!).length = k := R.hk _
       generalize enc dk[y + 1]! = cI3 at S2 l3a s3b n3a
       generalize enc dk[y]! = cJ3 at S2 l3b s3a s3b n3b
       clear S1
       go_wp2_with fail
       go_big_region_o
       clear l3a l3b s3a s3b
       generalize (wr.drew.setCells blk (off + (y + 1) * k) cJ3).setCells blk (off + (y) * k) cI3 = w3 at S2 ⊢
       go_wp2
       go_roundg (y - i)
       case measure => omega
       case rel => exact ⟨y, swp dk (y + 1) y, by go_num, by omega, by omega, Nat.le_refl _, by rw [size_swp]; exact hds, HR.out.left (by omega) (by omega), S2⟩
     · have hx1z : ¬ (i : Int) < (x : Int) := by omega
       obtain rfl : x = i := by omega
       go_wp2_with fail
       (try simp only [Exit.inBlock, Exit.then]); refine bodyPost_ret (results_none rfl _ _ _) rfl ?_
       exact ⟨rfl, dk, by rw [show b = m + 1 by omega]; exact srt_last hO (by omega) (by omega) hb HA.out HL.out HG.out HR.out, S1.out⟩
end
end Go.Proofs.Ytamhfjlffacakaa.St

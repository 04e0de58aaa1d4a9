/-
  How many rows don't hang on the others, of square rows (stookref02's Rank): as many as there are, just if none hangs on the others.
-/
import Derived.Test.YtnobpdgicglieaaMxRankMem
import Derived.StillTailTactics
namespace Go.Proofs.Ytnobpdgicglieaa.Mx
open Go.ChangeShapes Go.WideShapes Go.ChangeAt Go.RowKit Go.Proofs.Ytnobpdgicglieaa.Gf

theorem infoI : (Try.prog.info? 3).map (fun i => (i.zero, i.size, i.bytes)) = some (some (.int .i64 0), 1, 8) := by kernel_rfl
theorem infoRI : (Try.prog.info? 33).map (fun i => (i.zero, i.size, i.bytes)) = some (some (.slice none 0 0), 1, 24) := by kernel_rfl
/-- The column is being cleared below row n: rows up to k are done. -/
structure El (N c n k : Nat) (A y : Nat → Nat → K) : Prop where
  re : RE N A y
  lead : y n c ≠ 0
  done : ∀ i, n < i → i < k → y i c = 0
  tri : n = c → Tri N c y
theorem El.step {N c n k : Nat} {A y : Nat → Nat → K} {t v : K} (h : El N c n k A y) (hn : n < N) (hk : n < k) (hv : y n c * v = 1) (ht : t = y k c * v) : El N c n (k + 1) A (adr y n k t) := by
  have hkn : k ≠ n := by omega
  refine ⟨h.re.trans (re_add hn hkn), ?_, fun i h1 h2 => ?_, fun e j hj => ?_⟩
  · unfold adr; rw [if_neg (by omega)]; exact h.lead
  · unfold adr
    by_cases e : i = k
    · subst e
      rw [if_pos rfl, ht, mula, mulc v, hv, mul1, add2]
    · rw [if_neg e]; exact h.done i h1 (by omega)
  · obtain ⟨h1, h2⟩ := h.tri e j hj
    refine ⟨?_, fun i hi hN => ?_⟩
    · unfold adr; rw [if_neg (by omega)]; exact h1
    · unfold adr
      by_cases e2 : i = k
      · subst e2
        rw [if_pos rfl, h2 i hi hN, h2 n (by omega) hn, mul0, add0]
      · rw [if_neg e2]; exact h2 i hi hN
theorem El.end_ {N c n : Nat} {A y : Nat → Nat → K} (h : El N c n N A y) (e : n = c) : Tri N (c + 1) y := fun j hj => by
  by_cases e2 : j = c
  · subst e2; subst e; exact ⟨h.lead, fun i h1 h2 => h.done i h1 h2⟩
  · exact h.tri e j (by omega)
theorem El.start {N c n p : Nat} {A y : Nat → Nat → K} (hre : RE N A y) (hn : n < N) (hp : p < N) (hnp : n ≤ p) (hl : y p c ≠ 0) (htri : n = c → Tri N c y) : El N c n (n + 1) A (fun i => y (sw n p i)) := by
  refine ⟨hre.trans (re_swap hn hp), ?_, fun i h1 h2 => by omega, fun e j hj => ?_⟩
  · show y (sw n p n) c ≠ 0
    rw [show sw n p n = p from if_pos rfl]; exact hl
  · obtain ⟨h1, h2⟩ := htri e j hj
    refine ⟨?_, fun i hi hN => ?_⟩
    · show y (sw n p j) j ≠ 0
      rw [show sw n p j = j from by unfold sw; rw [if_neg (by omega), if_neg (by omega)]]; exact h1
    · show y (sw n p i) j = 0
      refine h2 _ ?_ (sw_lt hn hp hN)
      unfold sw
      by_cases e1 : i = n
      · rw [if_pos e1]; omega
      · rw [if_neg e1]
        by_cases e2 : i = p
        · rw [if_pos e2]; omega
        · rw [if_neg e2]; exact hi
/-- Row k, j places of it added to. -/
def parr (y : Nat → Nat → K) (n k : Nat) (t : K) (j a b : Nat) : K := if a = k ∧ b < j then y a b + t * y n b else y a b
theorem parr_step (y : Nat → Nat → K) (n k : Nat) (t : K) (j a b : Nat) : upd (parr y n k t j) k j (y k j + t * y n j) a b = parr y n k t (j + 1) a b := by
  unfold upd parr
  by_cases e : a = k ∧ b = j
  · rw [if_pos e, if_pos (by omega), e.1, e.2]
  · rw [if_neg e]
    by_cases e2 : a = k ∧ b < j
    · rw [if_pos e2, if_pos (by omega)]
    · rw [if_neg e2, if_neg (by omega)]
theorem parr_done (y : Nat → Nat → K) (n k : Nat) (t : K) (m a b : Nat) (hb : b < m) : parr y n k t m a b = adr y n k t a b := by
  unfold parr adr
  by_cases e : a = k
  · rw [if_pos ⟨e, hb⟩, if_pos e]
  · rw [if_neg (fun q => e q.1), if_neg e]
/-- What Rank answers of square rows. -/
def RankPost (N : Nat) (A : Nat → Nat → K) (w : World) (e : Ending) (w' : World) : Prop :=
  ∃ k : Nat, k ≤ N ∧ (k = N → ¬ Sing N A) ∧ (k < N → Sing N A) ∧ e = .returned (.int .i64 (k : Int)) ∧ Below w.heap.size w w'
def RelRao (w : World) (n m : Nat) (z : Nat → Nat → K) (V I : Value) (wr : World) : Prop := ∃ (k : Nat) (R : Nat → Value), k ≤ n ∧ I = .int .i64 (k : Int) ∧ OutsI w wr m k z R V
def RelRam (wr : World) (m : Nat) (z : Nat → K) (U I : Value) (wi : World) : Prop := ∃ j : Nat, j ≤ m ∧ I = .int .i64 (j : Int) ∧ wi.ownsRow wr.heap.size 3 1 U j (il j z) ∧ Below wr.heap.size wr wi
/-- The state between columns. -/
structure Mid (w wr : World) (B N c n : Nat) (r cp : Nat → Nat) (A y : Nat → Nat → K) : Prop where
  own : OwnI wr w.heap.size B N N r cp y
  re : RE N A y
  tri : n = c → Tri N c y
  sing : n < c → Sing N A
  below : Below w.heap.size w wr
def RelMain (w : World) (B N : Nat) (A : Nat → Nat → K) (V I : Value) (wr : World) : Prop := ∃ (c n : Nat) (r cp : Nat → Nat) (y : Nat → Nat → K), c ≤ N ∧ n ≤ c ∧ n < N ∧ V = .int .i64 (n : Int) ∧ I = .int .i64 (c : Int) ∧ Mid w wr B N c n r cp A y
theorem Mid.skip {w wr : World} {B N c n : Nat} {r cp : Nat → Nat} {A y : Nat → Nat → K} (h : Mid w wr B N c n r cp A y) (hn : n ≤ c) (hc : c < N) (hz : ∀ i, n ≤ i → i < N → y i c = 0) : Mid w wr B N (c + 1) n r cp A y :=
  ⟨h.own, h.re, fun e => by omega, fun _ => by
    by_cases e : n = c
    · subst e; exact h.re.sing ((h.tri rfl).sing hc hz)
    · exact h.sing (by omega), h.below⟩
def RelP4 (N c n : Nat) (y : Nat → Nat → K) (I : Value) : Prop := ∃ p : Nat, n ≤ p ∧ p ≤ N ∧ (∀ i, n ≤ i → i < p → y i c = 0) ∧ I = .int .i64 (p : Int)
def RelE5 (w : World) (B N c n : Nat) (r cp : Nat → Nat) (A : Nat → Nat → K) (v : K) (I : Value) (wr : World) : Prop := ∃ (k : Nat) (y : Nat → Nat → K), n < k ∧ k ≤ N ∧ I = .int .i64 (k : Int) ∧ OwnI wr w.heap.size B N N r cp y ∧ El N c n k A y ∧ y n c * v = 1 ∧ Below w.heap.size w wr
def RelE6 (w : World) (B N n k : Nat) (r cp : Nat → Nat) (y : Nat → Nat → K) (t : K) (J : Value) (wr : World) : Prop := ∃ j : Nat, j ≤ N ∧ J = .int .i64 (j : Int) ∧ OwnI wr w.heap.size B N N r cp (parr y n k t j) ∧ Below w.heap.size w wr
set_option maxRecDepth 100000 in
set_option maxHeartbeats 4000000 in
theorem rank_any (P O N cn : Nat) (b o c : Nat → Nat) (x : Nat → Nat → K) (w : World) (hN : 1 ≤ N) (hN' : N ≤ 64) (hM : Mat w P O N N b o c x) :
    Calls Try.prog 24 #[.slice (some ⟨P, O, none⟩) N cn] w (RankPost N x w) := by
  have HM := Lib.hid hM; clear hM
  obtain ⟨i8, hi8, hz8, hs8, hb8⟩ := info_parts infoI
  obtain ⟨iR, hiR, hzR, hsR, hbR⟩ := info_parts infoRI
  have HI8 := Lib.hid hi8; have HZ8 := Lib.hid hz8; have HS8 := Lib.hid hs8; have HB8 := Lib.hid hb8
  have HIR := Lib.hid hiR; have HZR := Lib.hid hzR; have HSR := Lib.hid hsR; have HBR := Lib.hid hbR
  clear hi8 hz8 hs8 hb8 hiR hzR hsR hbR
  go_enter Try.func24, Try.ntmps24
  go_wp2_with fail
  go_loopw [3, 4] (fun V I wr => RelRao w N N x V I wr) (fun _ I _ => N - (intOf I).toNat)
  case atStart => exact ⟨0, fun _ => .slice none 0 0, by omega, rfl, ⟨World.ownsRow_nil _ _ _ _, fun i hi => by omega, fun i hi => by omega, Below.refl _ _⟩⟩
  case round =>
    obtain ⟨k, R, hk, rfl, hO⟩ := hrel
    have HO := Lib.hid hO; clear hO
    by_cases hlt : k < N
    · have k0 : (k : Int) < (N : Int) := by omega
      go_wp2_with fail
      generalize wr = wo at *
      go_loopw [5, 6] (fun U I wi => RelRam wo N (x k) U I wi) (fun _ I _ => N - (intOf I).toNat)
      case atStart => exact ⟨0, by omega, rfl, World.ownsRow_nil _ _ _ _, Below.refl _ _⟩
      case round =>
        obtain ⟨j, hj, rfl, hU, hB⟩ := hrel
        have HU := Lib.hid hU; have HB := Lib.hid hB; clear hU hB
        generalize wr = wi at *
        have HBw := Lib.hid (Below.next HO.out.below HB.out)
        have ca := (HM.out.below HBw.out).top k hlt
        by_cases hll : j < N
        · have j0 : (j : Int) < (N : Int) := by omega
          have cra := (HM.out.below HBw.out).row k hlt j hll
          have lx := (x k j).h
          have HE : Hid ((x k j).n = (x k j).n) := rfl
          generalize hs : (x k j).n = s at *
          have HSx := Lib.hid hs; clear hs HE
          go_wp2_with (at_builtin; refine wpList_append_own _ rfl _ _ 33 rfl wo.heap.size 3 i8 (.int .i64 0) 1 8 Try.underlying33 HI8.out HZ8.out HS8.out HB8.out rfl (by decide) _ _ _ rfl (HU.out.alloc _) ⟨wi.heap.size, 0, none⟩ 1 1 [.int .i64 (s : Int)] rfl rfl ?c1 ?c2 ?c3 ?c4 ?c5 ?_)
          case c1 =>
            intro a u ha
            match a, ha with
            | 0, ha => simp at ha; subst ha; simp [Addr.add]
          case c2 => intro u hu; simp at hu; subst hu; rfl
          case c3 => unfold maxLen; omega
          case c4 => omega
          case c5 => have := HB.out.size; simp; omega
          intro v' w1 hown' hgrow _
          have HN : Hid (w1.ownsRow wo.heap.size 3 1 v' (j + 1) (il (j + 1) (x k))) := by
            show World.ownsRow _ _ _ _ _ _ _
            rw [il_succ, HSx.out]; exact hown'
          have HB3 : Hid (Below wo.heap.size wo w1) := (HB.out.alloc HB.out.size _).grown hgrow (by have := HB.out.size; simp; omega) (fun g e => (HU.out.lt g e).1)
          clear hown' hgrow
          go_wp2
          go_roundw
          case rel => exact ⟨j + 1, by omega, by go_num, HN.out, HB3.out⟩
          case measure => simp [intOf]; omega
        · obtain rfl : j = N := by omega
          have HO2 := Lib.hid (HO.out.next HB.out)
          obtain ⟨g, cap, hv, _, _⟩ := HU.out.form (by omega)
          subst hv
          go_wp2_with (at_builtin; refine wpList_append_own _ rfl _ _ 54 rfl w.heap.size 33 iR (.slice none 0 0) 1 24 Try.underlying54 HIR.out HZR.out HSR.out HBR.out rfl (by decide) _ _ _ rfl (HO2.out.top.alloc _) ⟨wi.heap.size, 0, none⟩ 1 1 [.slice (some ⟨g, 0, none⟩) j cap] rfl rfl ?c1 ?c2 ?c3 ?c4 ?c5 ?_)
          case c1 =>
            intro a u ha
            match a, ha with
            | 0, ha => simp at ha; subst ha; simp [Addr.add]
          case c2 => intro u hu; simp at hu; subst hu; rfl
          case c3 => unfold maxLen; omega
          case c4 => omega
          case c5 => have := HO2.out.below.size; simp; omega
          intro v' w1 hown' hgrow _
          have HN : Hid (OutsI w w1 j (k + 1) x (fun i => if i < k then R i else .slice (some ⟨g, 0, none⟩) j cap) v') :=
            OutsI.push (by omega) HO.out (HO2.out.next ((Below.refl _ _).alloc (Nat.le_refl _) _)) (HU.out.alloc _) hown' hgrow
          clear hown' hgrow
          go_wp2
          go_roundw
          case rel => exact ⟨k + 1, _, by omega, by go_num, HN.out⟩
          case measure => simp [intOf]; omega
    · obtain rfl : N = k := by omega
      obtain ⟨B, cap, r, cp, hv, hOw⟩ := HO.out.own (by omega) (by omega)
      subst hv
      have HS : Hid (Mid w wr B N 0 0 r cp x x) := ⟨hOw, RE.refl, fun _ j hj => by omega, fun h => by omega, HO.out.below⟩
      clear hOw HO HI8 HZ8 HS8 HB8 HIR HZR HSR HBR
      go_wp2_with fail
      go_loopw [7, 8] (fun V I wr => RelMain w B N x V I wr) (fun _ I _ => N - (intOf I).toNat)
      case atStart => exact ⟨0, 0, r, cp, x, by omega, by omega, by omega, rfl, rfl, HS.out⟩
      case round =>
        clear HS
        obtain ⟨cc, n, r, cp, y, hc, hnc, hnN, rfl, rfl, hmid⟩ := hrel
        have HD := Lib.hid hmid; clear hmid
        have ca0 := (HM.out.below HD.out.below).top0 (by omega)
        have N0 : (0 : Int) < (N : Int) := by omega
        by_cases hlt : cc < N
        · have c0 : (cc : Int) < (N : Int) := by omega
          go_wp2_with fail
          go_loop [9] (fun I => RelP4 N cc n y I) (fun I => N - (intOf I).toNat)
          case atStart => exact ⟨n, by omega, by omega, fun i h1 h2 => by omega, rfl⟩
          case round =>
            obtain ⟨p, hp1, hp2, hz, rfl⟩ := hrel
            have HZ := Lib.hid hz; clear hz
            by_cases hpl : p < N
            · have p0 : (p : Int) < (N : Int) := by omega
              have pd : decide ((p : Int) < (N : Int)) = true := by simp; omega
              have ct := HD.out.own.top.cell hpl
              have cr := (HD.out.own.row p hpl).cell hlt
              by_cases he : y p cc = 0
              · have HE := Lib.hid he
                rw [he] at cr
                have cr' : wr.cell? ⟨r p, cc, none⟩ = some (.int .i64 0) := cr
                clear he cr
                go_wp2
                go_round
                case rel => exact ⟨p + 1, by omega, by omega, fun i h1 h2 => by
                  by_cases e : i = p
                  · subst e; exact HE.out
                  · exact HZ.out i h1 (by omega), by go_num⟩
                case measure => simp [intOf]; omega
              · have HE := Lib.hid he
                have hne := ne0 he
                have t1 : (((y p cc).n : Int) == 0) = false := by simp; omega
                have t1' : ((y p cc).n == 0) = false := by simpa using hne
                have t2 : ((p : Int) == (N : Int)) = false := by simp; omega
                have t2' : (p == N) = false := by simp; omega
                have ly := (y p cc).h
                clear he hne
                have n0 : (n : Int) < (N : Int) := by omega
                have cn1 := HD.out.own.top.cell hnN
                have fp := HD.out.own.top.frozen p
                have fn := HD.out.own.top.frozen n
                obtain ⟨u2, cu2⟩ := cell?_setCell_some (w := wr) (p := ⟨B, p, none⟩) (x := .slice (some ⟨r n, 0, none⟩) N (cp n)) (q := ⟨B, n, none⟩) (v := .slice (some ⟨r n, 0, none⟩) N (cp n)) cn1
                have hO2 := HD.out.own.swap hnN hpl
                have HO2 := Lib.hid hO2
                have c2n := hO2.top.cell hnN
                have c2c := (hO2.row n hnN).cell hlt
                clear hO2
                rw [show sw n p n = p from if_pos rfl] at c2n c2c
                go_wp2_with fail
                have HEl := Lib.hid (El.start HD.out.re hnN hpl hp1 HE.out HD.out.tri)
                have HB2 : Hid (Below w.heap.size w ((wr.setCell ⟨B, p, none⟩ (.slice (some ⟨r n, 0, none⟩) N (cp n))).setCell ⟨B, n, none⟩ (.slice (some ⟨r p, 0, none⟩) N (cp p)))) :=
                  (HD.out.below.setCell (p := ⟨B, p, none⟩) HD.out.own.low _).setCell (p := ⟨B, n, none⟩) HD.out.own.low _
                have HLd : Hid ((fun i => y (sw n p i)) n cc = y p cc) := by
                  show y (sw n p n) cc = _
                  rw [show sw n p n = p from if_pos rfl]
                have HSg := Lib.hid HD.out.sing
                clear c2n c2c cu2 cn1 fp fn ct cr ca0
                generalize ((wr.setCell ⟨B, p, none⟩ (.slice (some ⟨r n, 0, none⟩) N (cp n))).setCell ⟨B, n, none⟩ (.slice (some ⟨r p, 0, none⟩) N (cp p))) = w2 at *
                generalize (fun i => y (sw n p i)) = y1 at *
                generalize (fun i => r (sw n p i)) = r1 at *
                generalize (fun i => cp (sw n p i)) = cp1 at *
                refine (refinv_any (y p cc).n ly _).mono ?_
                rintro e w3 ⟨v, hv, rfl, rfl⟩
                have HV : Hid (y1 n cc * ⟨v, hv.1⟩ = 1) := by
                  show y1 n cc * ⟨v, hv.1⟩ = 1
                  rw [HLd.out]; exact K.eq (hv.2.2 (ne0 HE.out))
                have HVI := Lib.hid hv
                obtain ⟨vk, hvk⟩ : ∃ vk : K, vk.n = v := ⟨⟨v, hv.1⟩, rfl⟩
                have HV2 : Hid (y1 n cc * vk = 1) := by
                  have e : vk = ⟨v, hv.1⟩ := K.eq hvk
                  show y1 n cc * vk = 1
                  rw [e]; exact HV.out
                subst hvk
                have lv := vk.h
                clear HV HVI hv HLd HD HE t1 t1' t2 t2' pd ly HZ
                go_wp2_with fail
                go_loopw [12] (fun I wr => RelE5 w B N cc n r1 cp1 x vk I wr) (fun I _ => N - (intOf I).toNat)
                case atStart => exact ⟨n + 1, y1, by omega, by omega, by go_num, HO2.out, HEl.out, HV2.out, HB2.out⟩
                case round =>
                  clear HO2 HEl HV2 HB2
                  obtain ⟨k, y, hk1, hk2, rfl, hO, hE, hV, hB⟩ := hrel
                  have HO := Lib.hid hO; have HE := Lib.hid hE; have HV := Lib.hid hV; have HB := Lib.hid hB; clear hO hE hV hB
                  by_cases hkl : k < N
                  · have k0 : (k : Int) < (N : Int) := by omega
                    have ct := HO.out.top.cell hkl
                    have cr := (HO.out.row k hkl).cell hlt
                    have ly := (y k cc).h
                    go_wp2_with fail
                    refine (refmul_any (y k cc).n vk.n ly lv _).mono ?_
                    rintro e w4 ⟨rfl, rfl⟩
                    have HT : Hid (gm (y k cc).n vk.n = (y k cc * vk).n) := rfl
                    obtain ⟨t, ht⟩ : ∃ t : K, t = y k cc * vk := ⟨_, rfl⟩
                    have HTk := Lib.hid ht
                    rw [HT.out, ← ht]
                    clear ht HT ct cr ly
                    have lt := t.h
                    have HS0 : Hid (RelE6 w B N n k r1 cp1 y t (.int .i64 0) wr) := ⟨0, by omega, rfl, HO.out.congr fun a _ b _ => (if_neg (by omega)).symm, HB.out⟩
                    go_wp2_with fail
                    go_loopw [14] (fun J wi => RelE6 w B N n k r1 cp1 y t J wi) (fun J _ => N - (intOf J).toNat)
                    case atStart => exact HS0.out
                    case round =>
                      clear HS0
                      obtain ⟨j, hj, rfl, hO, hB⟩ := hrel
                      have HP := Lib.hid hO; have HQ := Lib.hid hB; clear hO hB
                      have ct := HP.out.top.cell hkl
                      by_cases hjl : j < N
                      · have j0 : (j : Int) < (N : Int) := by omega
                        have cn1 := HP.out.top.cell hnN
                        have crk := (HP.out.row k hkl).cell hjl
                        have crn := (HP.out.row n hnN).cell hjl
                        rw [show parr y n k t j k j = y k j from if_neg (by omega)] at crk
                        rw [show parr y n k t j n j = y n j from if_neg (by omega)] at crn
                        have fr := (HP.out.row k hkl).frozen j
                        have HSt := Lib.hid ((HP.out.drewN 1).set hkl j (y k j + t * y n j))
                        have HBt := Lib.hid ((below_drewN HQ.out 1).setCell (p := ⟨r1 k, j, none⟩) (HP.out.los k hkl) (.int .i64 ((y k j + t * y n j).n : Int)))
                        have HX : Hid (bits .xor .i64 ((y k j).n : Int) ((gm t.n (y n j).n : Nat) : Int) = ((y k j + t * y n j).n : Int)) :=
                          i64_xor (y k j).n (gm t.n (y n j).n) (by have := (y k j).h; omega) (by have := gm_lt t.n (y n j).n; omega)
                        have ln := (y n j).h
                        have HC := Lib.hid (refmul_same t.n (y n j).n lt ln wr.drew)
                        have HPs := Lib.hid (fun a b => parr_step y n k t j a b)
                        generalize hgg : (y k j + t * y n j).n = s at *
                        have HGG := Lib.hid hgg; clear hgg
                        generalize (y k j).n = u at *
                        generalize (y n j).n = v at *
                        go_wp2_with fail
                        refine wp_region_still_tail 22 (by kernel_rfl) (by kernel_rfl) ?_
                        simp only [List.take_succ_cons, List.take_zero, List.drop_succ_cons, List.drop_zero]
                        iterate 20 still_step
                        still_call HC.out
                        still_step
                        refine wpStill_nil ?_
                        rw [HX.out]
                        change wpList _ _ _ _ _ wr.drew
                        have HSu : Hid (OwnI (wr.drew.setCell ⟨r1 k, j, none⟩ (.int .i64 (s : Int))) w.heap.size B N N r1 cp1 (parr y n k t (j + 1))) := HSt.out.congr fun a _ b _ => HPs.out a b
                        have HBu : Hid (Below w.heap.size w (wr.drew.setCell ⟨r1 k, j, none⟩ (.int .i64 (s : Int)))) := HBt.out
                        have crk' : wr.drew.cell? ⟨r1 k, j, none⟩ = some (.int .i64 (u : Int)) := crk
                        have fr' : wr.drew.frozen? ⟨r1 k, j, none⟩ = false := fr
                        clear HSt HBt HPs HX HC crk crn fr cn1 ct
                        generalize wr.drew = wd at *
                        go_wp2
                        go_roundw
                        case rel => exact ⟨j + 1, by omega, by go_num, HSu.out, HBu.out⟩
                        case measure => simp [intOf]; omega
                      · obtain rfl : N = j := by omega
                        have HN : Hid (OwnI wr w.heap.size B N N r1 cp1 (adr y n k t)) := HP.out.congr fun a _ b hb => parr_done y n k t N a b hb
                        have HEn := Lib.hid (HE.out.step hnN hk1 HV.out HTk.out)
                        have HVn : Hid (adr y n k t n cc * vk = 1) := by
                          show adr y n k t n cc * vk = 1
                          rw [show adr y n k t n cc = y n cc from if_neg (by omega)]; exact HV.out
                        go_wp2
                        go_roundw
                        case rel => exact ⟨k + 1, _, by omega, by omega, by go_num, HN.out, HEn.out, HVn.out, HQ.out⟩
                        case measure => simp [intOf]; omega
                  · obtain rfl : N = k := by omega
                    by_cases hfull : n + 1 = N
                    · have t3 : (((n : Int) + 1) == (N : Int)) = true := by simp; omega
                      have HF : Hid (¬ Sing N x) := by
                        have e : n = cc := by omega
                        have := HE.out.end_ e
                        have e2 : cc + 1 = N := by omega
                        rw [e2] at this
                        exact this.full HE.out.re
                      go_wp2
                      go_ret
                      exact ⟨n + 1, by omega, fun _ => HF.out, fun h => by omega, by go_num, HB.out⟩
                    · have t3 : (((n : Int) + 1) == (N : Int)) = false := by simp; omega
                      have HMd : Hid (Mid w wr B N (cc + 1) (n + 1) r1 cp1 x y) := ⟨HO.out, HE.out.re, fun e => HE.out.end_ (by omega), fun h => HSg.out (by omega), HB.out⟩
                      go_wp2
                      go_roundw
                      case rel => exact ⟨cc + 1, n + 1, r1, cp1, y, by omega, by omega, by omega, by go_num, by go_num, HMd.out⟩
                      case measure => simp [intOf]; omega
            · obtain rfl : N = p := by omega
              have pd : decide ((N : Int) < (N : Int)) = false := by simp
              have HS := Lib.hid (HD.out.skip hnc hlt HZ.out)
              go_wp2
              go_roundw
              case rel => exact ⟨cc + 1, n, r, cp, y, by omega, by omega, hnN, rfl, by go_num, HS.out⟩
              case measure => simp [intOf]; omega
        · obtain rfl : N = cc := by omega
          go_wp2
          go_ret
          exact ⟨n, by omega, fun h => by omega, fun _ => HD.out.sing hnN, rfl, HD.out.below⟩
end Go.Proofs.Ytnobpdgicglieaa.Mx

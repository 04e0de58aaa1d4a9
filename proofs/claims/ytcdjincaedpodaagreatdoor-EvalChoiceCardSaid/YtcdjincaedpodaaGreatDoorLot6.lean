/-
  The texts of this claim, lot 6: EvDeed8, EvOwn, EvGrow, EvDeed9, EvBeh, EvAll, EvRun, EvRun2, EvFuel, EvSteps, ExEq, EvPairs, ExParse, ExBack, EvAwake, ExOf.
-/
import Derived.Test.YtcdjincaedpodaaGreatDoorLot5
import Derived.Deep.AppendLies
import Derived.Deep.RegionLaw
import Derived.Deep.OwnRows
import Derived.Deep.MidRow
import Derived.Deep.WholeRow
import Derived.Deep.RegionHeld3
import Derived.Deep.QuietTactic
import Derived.BigQuiet
/-
  Each (written by gen_evalike.py).
-/
namespace Go.Proofs.YtcdjincaedpodaaGreatDoor.Ev
open Go.ChangeShapes Go.WideShapes Go.ChangeAt Go.RowKit Go.Proofs.YtcdjincaedpodaaGreatDoor.Ov Go.Proofs.YtcdjincaedpodaaGreatDoor.Va Go.Proofs.YtcdjincaedpodaaGreatDoor.Ga Go.Proofs.YtcdjincaedpodaaGreatDoor.Ex

theorem body_each (f : List No → M Va) (n : No) (r : List No) (h : n.o = 28) : body f n r = bnd (prt f [0] r) (fun a => if (at0 a).n < 0 then fail 14 else withI (lp (f (nx r)) (at0 a).n.toNat 0 vz)) := by
  unfold body
  rw [if_neg (by omega), if_neg (by omega), if_neg (by omega), if_pos h, prt_one]
  congr 1
  funext a
  by_cases h0 : a.k = 0
  · have e : ((0 : Int) == -1 || a.k == 0) = true := by simp [h0]
    rw [e, if_neg (fun e => e h0)]; rfl
  · have e : ((0 : Int) == -1 || a.k == 0) = false := by simpa using h0
    rw [e, if_pos h0]; rfl
theorem withI_ans {f : M Va} {S S2 : St} {n n2 : Nat} {P : Va → Prop} {x : Int} (h : Ans (f S n) P x S2 n2) : Ans (withI f S n) P x { S2 with i := S.i } n2 := by
  unfold withI
  rcases h.cases with ⟨h0, e⟩ | ⟨h0, a, ha, e⟩
  · rw [e]; exact ⟨rfl, h0⟩
  · rw [e]; exact ⟨h0, ha, rfl, rfl⟩
/-- The loop: so many times are done, the last one's value is v. -/
def JE (w0 : World) (A : Option Addr) (c E b : Nat) (l : List No) (ov : Value) (w : World) (Z : Nat) (k : Nat) (g : M Va) (X : Rs Va) (a' : Act) (w' : World) : Prop :=
  ∃ (N : Nat) (S1 : St) (n1 L : Nat) (P : Value) (j : Nat) (v : Va) (S2 : St) (n2 : Nat) (ov2 : Value) (u11 : Value) (u12 u13 u14 u15 u16 u17 u18 u19 u20 u21 u22 u23 u24 u25 u26 u27 u28 u29 u30 u31 u32 u33 u34 u35 u36 u37 u38 u39 u40 u41 u42 u43 u44 u45 u46 u47 u48 u49 u50 u51 u52 u53 u54 u55 : Value),
    N ≤ 9007199254740992 ∧ X = withI (lp g N 0 vz) S1 n1 ∧ j ≤ N ∧ lp g N 0 vz S1 n1 = lp g (N - j) j v S2 n2 ∧ Gd S2 n2 ∧ Doer w0 A c E b l S2 n2 ov2 w' ∧ Mv b ov w ov2 w' ∧ Box w0 b E ov2 Z [.int .i64 0, .int .i64 0, .string ⟨#[]⟩, .int .i64 0, .int .i64 0] w' ∧ Box w0 b E ov2 L (vcl v) w' ∧ L ≠ Z ∧ w.heap.size ≤ L ∧
    a' = { tmps := #[.pointer (some ⟨b, 0, none⟩), .int .i64 (k : Int), undef, undef, .pointer (some ⟨Z, 0, none⟩), .int .i64 0, P, .int .i64 0, .int .i64 (N : Int), .pointer (some ⟨L, 0, none⟩), .int .i64 (j : Int), u11, u12, u13, u14, u15, u16, u17, u18, u19, u20, u21, u22, u23, u24, u25, u26, u27, u28, u29, u30, u31, u32, u33, u34, u35, u36, u37, u38, u39, u40, u41, u42, u43, u44, u45, u46, u47, u48, u49, u50, u51, u52, u53, u54, u55],
           defers := [{ target := .fn (.func 103) #[], args := #[.pointer (some ⟨b, 0, none⟩), .int .i64 3, .agg #[.int .i64 0, .int .i64 S1.i, .string ⟨#[]⟩, .int .i64 0, .int .i64 0]] }] }
def muE (a : Act) (_ : World) : Nat := (intOf (a.tmps.getD 8 undef)).toNat - (intOf (a.tmps.getD 10 undef)).toNat
set_option maxRecDepth 100000 in
set_option maxHeartbeats 4000000 in
theorem deed_each {d : Nat} (HD : DoC (ev d) d) : DeedC d 28 62 := by
  intro w0 A c E b l S n ov w k r hcx hd hg hkl ho hrn hx hd24
  have HBD : Hid (body (ev d) (nd l k) (l.drop (k + 1)) S n = bnd (prt (ev d) [0] (l.drop (k + 1))) (fun a => if (at0 a).n < 0 then fail 14 else withI (lp (ev d (nx (l.drop (k + 1)))) (at0 a).n.toNat 0 vz)) S n) := by show _ = _; exact congrFun (congrFun (body_each _ _ _ ho) S) n
  have HP := Lib.hid (pre_any HD [0] (by decide) (by decide) (by decide) hcx hd hg hkl hx (by decide) hd24)
  have hx3 := hx
  change it (ex d) 2 (l.drop (k + 1)) = some r at hx3
  rw [it_succ] at hx3
  obtain ⟨r1, x1, hx3⟩ := Option.bind_eq_some_iff.1 hx3
  rw [it_succ] at hx3
  obtain ⟨r2, x2, hx3⟩ := Option.bind_eq_some_iff.1 hx3
  obtain ⟨g1, g2, g3⟩ := ex_drop_len x1 (by omega)
  obtain ⟨y1, hy1⟩ : ∃ y1, l.length - r1.length = y1 := ⟨_, rfl⟩
  rw [hy1] at g1 g2
  rw [g1] at x2
  obtain ⟨g4, g5, g6⟩ := ex_drop_len x2 (by omega)
  have hl := hcx.len
  have HB1 : Hid (l.length - (nx (l.drop (k + 1))).length = y1) := by show _ = _; rw [nx_of x1 (by omega)]; exact hy1
  have HN1 : Hid (nx (l.drop (k + 1)) = l.drop y1) := by show _ = _; rw [nx_of x1 (by omega)]; exact g1
  have HC1 := Lib.hid (fun S1 n1 ov1 w3 hd3 hg3 => HD w0 A c E b l S1 n1 ov1 w3 y1 r2 hcx hd3 hg3 x2 (by omega))
  have HGE := Lib.hid (ev_good d (by omega) _ _ x2)
  have hk1 : k + 1 < l.length := by omega
  have hy1l : y1 < l.length := by omega
  clear hx3 x1 x2 g1 g2 g3 g4 g5 g6 hy1
  clear hcx hd hg ho hrn hx hd24 HD
  go_enter_defers Tryz.func62, Tryz.ntmps62
  go_wp2_with (fail)
  refine wp_scope_once 0 (JE w0 A c E b l ov w w.heap.size k (ev d (l.drop y1)) (body (ev d) (nd l k) (l.drop (k + 1)) S n)) muE rfl (fun NX => ?_) ?_
  rotate_left
  · rintro a1 w5 ⟨N, S1, n1, L, P, j, v, S2, n2, ov2, u11, u12, u13, u14, u15, u16, u17, u18, u19, u20, u21, u22, u23, u24, u25, u26, u27, u28, u29, u30, u31, u32, u33, u34, u35, u36, u37, u38, u39, u40, u41, u42, u43, u44, u45, u46, u47, u48, u49, u50, u51, u52, u53, u54, u55, hN, hX, hj, hlp, hg, hd, hm, hx, hlx, hLZ, hwL, rfl⟩
    have HX := Lib.hid hX; have HLP := Lib.hid hlp; have HG := Lib.hid hg; have HD5 := Lib.hid hd; have HM5 := Lib.hid hm; have HX5 := Lib.hid hx; have HL5 := Lib.hid hlx
    have hLl := hlx.blk.lt
    have hlZ5 := hx.blk.lt
    clear hX hlp hg hd hm hx hlx HBD HP
    by_cases he : j = N
    · subst he
      have h0 : ((j : Int) == (j : Int)) = true := beq_self_eq_true _
      have HR : Hid (lp (ev d (l.drop y1)) j 0 vz S1 n1 = .ok v S2 n2) := by show _ = _; rw [HLP.out, Nat.sub_self]; rfl
      clear HLP
      have cX0 := HX5.out.blk.c 0 _ rfl; have zX0 := HX5.out.blk.f 0 _ rfl
      have cX1 := HX5.out.blk.c 1 _ rfl; have zX1 := HX5.out.blk.f 1 _ rfl
      have cX2 := HX5.out.blk.c 2 _ rfl; have zX2 := HX5.out.blk.f 2 _ rfl
      have cX3 := HX5.out.blk.c 3 _ rfl; have zX3 := HX5.out.blk.f 3 _ rfl
      have cX4 := HX5.out.blk.c 4 _ rfl; have zX4 := HX5.out.blk.f 4 _ rfl
      have hltX := HX5.out.blk.lt
      have qL0 := HL5.out.blk.c 0 _ rfl
      have qL1 := HL5.out.blk.c 1 _ rfl
      have qL2 := HL5.out.blk.c 2 _ rfl
      have qL3 := HL5.out.blk.c 3 _ rfl
      have qL4 := HL5.out.blk.c 4 _ rfl
      go_wp2_with (fail)
      have hd9 := (HD5.out.puts HX5.out 0 [.int .i64 v.k, .int .i64 v.n, .string (tx v.s), .int .i64 v.x, .int .i64 v.y])
      have hm9 := (Mv.puts (B := w.heap.size) HM5.out (by omega) 0 [.int .i64 v.k, .int .i64 v.n, .string (tx v.s), .int .i64 v.x, .int .i64 v.y])
      have hxX := (Box.puts (HX5.out) [.int .i64 v.k, .int .i64 v.n, .string (tx v.s), .int .i64 v.x, .int .i64 v.y] rfl)
      clear cX0 zX0 cX1 zX1 cX2 zX2 cX3 zX3 cX4 zX4 qL0 qL1 qL2 qL3 qL4 HD5 HM5 HX5 HL5 
      simp only [Exit.jump]
      change bodyPostD _ _ _ _ _ (((((w5.setCell ⟨w.heap.size, 0, none⟩ (.int .i64 v.k)).setCell ⟨w.heap.size, 1, none⟩ (.int .i64 v.n)).setCell ⟨w.heap.size, 2, none⟩ (.string (tx v.s))).setCell ⟨w.heap.size, 3, none⟩ (.int .i64 v.x)).setCell ⟨w.heap.size, 4, none⟩ (.int .i64 v.y))
      change Doer _ _ _ _ _ _ _ _ _ ((((((w5.setCell ⟨w.heap.size, 0, none⟩ (.int .i64 v.k)).setCell ⟨w.heap.size, 1, none⟩ (.int .i64 v.n)).setCell ⟨w.heap.size, 2, none⟩ (.string (tx v.s))).setCell ⟨w.heap.size, 3, none⟩ (.int .i64 v.x)).setCell ⟨w.heap.size, 4, none⟩ (.int .i64 v.y))) at hd9
      change Mv _ _ _ _ ((((((w5.setCell ⟨w.heap.size, 0, none⟩ (.int .i64 v.k)).setCell ⟨w.heap.size, 1, none⟩ (.int .i64 v.n)).setCell ⟨w.heap.size, 2, none⟩ (.string (tx v.s))).setCell ⟨w.heap.size, 3, none⟩ (.int .i64 v.x)).setCell ⟨w.heap.size, 4, none⟩ (.int .i64 v.y))) at hm9
      change Box _ _ _ _ _ _ ((((((w5.setCell ⟨w.heap.size, 0, none⟩ (.int .i64 v.k)).setCell ⟨w.heap.size, 1, none⟩ (.int .i64 v.n)).setCell ⟨w.heap.size, 2, none⟩ (.string (tx v.s))).setCell ⟨w.heap.size, 3, none⟩ (.int .i64 v.x)).setCell ⟨w.heap.size, 4, none⟩ (.int .i64 v.y))) at hxX
      generalize ((((((w5.setCell ⟨w.heap.size, 0, none⟩ (.int .i64 v.k)).setCell ⟨w.heap.size, 1, none⟩ (.int .i64 v.n)).setCell ⟨w.heap.size, 2, none⟩ (.string (tx v.s))).setCell ⟨w.heap.size, 3, none⟩ (.int .i64 v.x)).setCell ⟨w.heap.size, 4, none⟩ (.int .i64 v.y))) = w9 at *
      have cX0 := hxX.blk.c 0 _ rfl
      have cX1 := hxX.blk.c 1 _ rfl
      have cX2 := hxX.blk.c 2 _ rfl
      have cX3 := hxX.blk.c 3 _ rfl
      have cX4 := hxX.blk.c 4 _ rfl
      refine leaves_cons (f := 103) (args := #[.pointer (some ⟨b, 0, none⟩), .int .i64 3, .agg #[.int .i64 0, .int .i64 S1.i, .string ⟨#[]⟩, .int .i64 0, .int .i64 0]]) (by simp) (by simp [go_sem]) ?_
      refine (stand3_def w9 S1.i hd9 .returning).mono ?_
      rintro e u w10 ⟨rfl, rfl, hd10, hm10⟩
      have hx10 := hxX.mv hm10
      have kX0 := hx10.blk.c 0 _ rfl; have kX1 := hx10.blk.c 1 _ rfl; have kX2 := hx10.blk.c 2 _ rfl; have kX3 := hx10.blk.c 3 _ rfl; have kX4 := hx10.blk.c 4 _ rfl
      refine ⟨.tuple #[.agg #[.int .i64 v.k, .int .i64 v.n, .string (tx v.s), .int .i64 v.x, .int .i64 v.y], .int .i64 0], by simp [results, Tryz.results62, go_sem, kX0, kX1, kX2, kX3, kX4], ⟨v, 0, { S2 with i := S1.i }, n2, ov2, rfl, by rw [HX.out]; exact withI_ans (Ans.ok HR.out rfl), hd10, hm9.trans hm10⟩⟩
    · have h0 : ((j : Int) == (N : Int)) = false := by rw [beq_eq_false_iff_ne]; omega
      have HR : Hid (lp (ev d (l.drop y1)) N 0 vz S1 n1 = bnd (ev d (l.drop y1)) (fun v => lp (ev d (l.drop y1)) (N - (j + 1)) ((j + 1 : Nat) : Int) v) { S2 with i := (j : Int) } n2) := by
        show _ = _
        rw [HLP.out, show N - j = (N - (j + 1)) + 1 by omega, lp_succ]; rfl
      clear HLP
      go_wp2_with (fail)
      refine (enumber_any _ _).mono ?_
      rintro e w6 ⟨rfl, hb⟩
      have HD6 := Lib.hid (HD5.out.old hb)
      have HM6 := Lib.hid (HM5.out.old hb)
      have HX6 := Lib.hid (HX5.out.old hb)
      have HL6 := Lib.hid (HL5.out.old hb)
      clear hb HD5 HM5 HX5 HL5  
      have HS := Lib.hid (stand3_any _ (j : Int) HD6.out)
      go_wp2_with (fail)
      refine (HS.out).mono ?_
      rintro e w7 ⟨rfl, hd7, hm7⟩
      have HD7 := Lib.hid hd7; have HX7 := Lib.hid (HX6.out.mv hm7); have HL7 := Lib.hid (HL6.out.mv hm7); have HM7 := Lib.hid (HM6.out.trans hm7)
      clear hd7 hm7 HD6 HX6 HL6 HM6 HS
      have HS := Lib.hid (second_any _ k HD7.out hk1 hl)
      rw [HB1.out] at HS
      go_wp2_with (fail)
      refine (HS.out).mono ?_
      rintro e w8 ⟨rfl, hb⟩
      have HD8 := Lib.hid (HD7.out.old hb)
      have HM8 := Lib.hid (HM7.out.old hb)
      have HX8 := Lib.hid (HX7.out.old hb)
      have HL8 := Lib.hid (HL7.out.old hb)
      clear hb HD7 HM7 HX7 HL7  HS
      have HG7 : Hid (Gd { S2 with i := (j : Int) } n2) := ⟨HG.out.key, HG.out.val, HG.out.acc, ⟨by show _ ≤ (j : Int); omega, by show (j : Int) ≤ _; omega⟩, HG.out.it, HG.out.out, HG.out.fuel⟩
      have HCC := Lib.hid (HC1.out _ n2 ov2 w8 HD8.out HG7.out)
      go_wp2_with (fail)
      refine HCC.out.mono ?_
      rintro e w11 ⟨u, x, S3, n3, ov3, rfl, ha6, hd6, hm6⟩
      have HA6 := Lib.hid ha6; have HD11 := Lib.hid hd6; have HM11 := Lib.hid (HM8.out.trans hm6); have HX11 := Lib.hid (HX8.out.mv hm6); have HL11 := Lib.hid (HL8.out.mv hm6)
      clear ha6 hd6 hm6 HD8 HM8 HX8 HL8 HCC 
      rcases HA6.out.cases with ⟨hx0, hX⟩ | ⟨rfl, a, rfl, hX⟩
      · have HX0 := Lib.hid hx0
        have HXX : Hid (lp (ev d (l.drop y1)) N 0 vz S1 n1 = .er x) := by show _ = _; rw [HR.out, bnd_er hX]
        have hx1 : (x == 0) = false := by simpa using hx0
        have hx2 : (x != 0) = true := by simpa using hx0
        clear hx0 hX HA6
        have cX0 := HX11.out.blk.c 0 _ rfl; have zX0 := HX11.out.blk.f 0 _ rfl
        have cX1 := HX11.out.blk.c 1 _ rfl; have zX1 := HX11.out.blk.f 1 _ rfl
        have cX2 := HX11.out.blk.c 2 _ rfl; have zX2 := HX11.out.blk.f 2 _ rfl
        have cX3 := HX11.out.blk.c 3 _ rfl; have zX3 := HX11.out.blk.f 3 _ rfl
        have cX4 := HX11.out.blk.c 4 _ rfl; have zX4 := HX11.out.blk.f 4 _ rfl
        have hltX := HX11.out.blk.lt
        have cL0 := HL11.out.blk.c 0 _ rfl; have zL0 := HL11.out.blk.f 0 _ rfl
        have cL1 := HL11.out.blk.c 1 _ rfl; have zL1 := HL11.out.blk.f 1 _ rfl
        have cL2 := HL11.out.blk.c 2 _ rfl; have zL2 := HL11.out.blk.f 2 _ rfl
        have cL3 := HL11.out.blk.c 3 _ rfl; have zL3 := HL11.out.blk.f 3 _ rfl
        have cL4 := HL11.out.blk.c 4 _ rfl; have zL4 := HL11.out.blk.f 4 _ rfl
        have hltL := HL11.out.blk.lt
        go_wp2_with (fail)
        have hd9 := ((HD11.out.puts HL11.out 0 [.int .i64 u.k, .int .i64 u.n, .string (tx u.s), .int .i64 u.x, .int .i64 u.y]).puts (Box.puts_other (C := L) (HX11.out) (by omega) 0 [.int .i64 u.k, .int .i64 u.n, .string (tx u.s), .int .i64 u.x, .int .i64 u.y]) 0 [.int .i64 0, .int .i64 0, .string ⟨#[]⟩, .int .i64 0, .int .i64 0])
        have hm9 := (Mv.puts (B := w.heap.size) (Mv.puts (B := L) HM11.out (by omega) 0 [.int .i64 u.k, .int .i64 u.n, .string (tx u.s), .int .i64 u.x, .int .i64 u.y]) (by omega) 0 [.int .i64 0, .int .i64 0, .string ⟨#[]⟩, .int .i64 0, .int .i64 0])
        have hxL := (Box.puts_other (C := w.heap.size) ((Box.puts (HL11.out) [.int .i64 u.k, .int .i64 u.n, .string (tx u.s), .int .i64 u.x, .int .i64 u.y] rfl)) (by omega) 0 [.int .i64 0, .int .i64 0, .string ⟨#[]⟩, .int .i64 0, .int .i64 0])
        have hxX := (Box.puts ((Box.puts_other (C := L) (HX11.out) (by omega) 0 [.int .i64 u.k, .int .i64 u.n, .string (tx u.s), .int .i64 u.x, .int .i64 u.y])) [.int .i64 0, .int .i64 0, .string ⟨#[]⟩, .int .i64 0, .int .i64 0] rfl)
        clear cX0 zX0 cX1 zX1 cX2 zX2 cX3 zX3 cX4 zX4 cL0 zL0 cL1 zL1 cL2 zL2 cL3 zL3 cL4 zL4 HD11 HM11 HX11 HL11 
        simp only [Exit.jump]
        change bodyPostD _ _ _ _ _ ((((((((((w11.setCell ⟨L, 0, none⟩ (.int .i64 u.k)).setCell ⟨L, 1, none⟩ (.int .i64 u.n)).setCell ⟨L, 2, none⟩ (.string (tx u.s))).setCell ⟨L, 3, none⟩ (.int .i64 u.x)).setCell ⟨L, 4, none⟩ (.int .i64 u.y)).setCell ⟨w.heap.size, 0, none⟩ (.int .i64 0)).setCell ⟨w.heap.size, 1, none⟩ (.int .i64 0)).setCell ⟨w.heap.size, 2, none⟩ (.string ⟨#[]⟩)).setCell ⟨w.heap.size, 3, none⟩ (.int .i64 0)).setCell ⟨w.heap.size, 4, none⟩ (.int .i64 0))
        change Doer _ _ _ _ _ _ _ _ _ (((((((((((w11.setCell ⟨L, 0, none⟩ (.int .i64 u.k)).setCell ⟨L, 1, none⟩ (.int .i64 u.n)).setCell ⟨L, 2, none⟩ (.string (tx u.s))).setCell ⟨L, 3, none⟩ (.int .i64 u.x)).setCell ⟨L, 4, none⟩ (.int .i64 u.y)).setCell ⟨w.heap.size, 0, none⟩ (.int .i64 0)).setCell ⟨w.heap.size, 1, none⟩ (.int .i64 0)).setCell ⟨w.heap.size, 2, none⟩ (.string ⟨#[]⟩)).setCell ⟨w.heap.size, 3, none⟩ (.int .i64 0)).setCell ⟨w.heap.size, 4, none⟩ (.int .i64 0))) at hd9
        change Mv _ _ _ _ (((((((((((w11.setCell ⟨L, 0, none⟩ (.int .i64 u.k)).setCell ⟨L, 1, none⟩ (.int .i64 u.n)).setCell ⟨L, 2, none⟩ (.string (tx u.s))).setCell ⟨L, 3, none⟩ (.int .i64 u.x)).setCell ⟨L, 4, none⟩ (.int .i64 u.y)).setCell ⟨w.heap.size, 0, none⟩ (.int .i64 0)).setCell ⟨w.heap.size, 1, none⟩ (.int .i64 0)).setCell ⟨w.heap.size, 2, none⟩ (.string ⟨#[]⟩)).setCell ⟨w.heap.size, 3, none⟩ (.int .i64 0)).setCell ⟨w.heap.size, 4, none⟩ (.int .i64 0))) at hm9
        change Box _ _ _ _ _ _ (((((((((((w11.setCell ⟨L, 0, none⟩ (.int .i64 u.k)).setCell ⟨L, 1, none⟩ (.int .i64 u.n)).setCell ⟨L, 2, none⟩ (.string (tx u.s))).setCell ⟨L, 3, none⟩ (.int .i64 u.x)).setCell ⟨L, 4, none⟩ (.int .i64 u.y)).setCell ⟨w.heap.size, 0, none⟩ (.int .i64 0)).setCell ⟨w.heap.size, 1, none⟩ (.int .i64 0)).setCell ⟨w.heap.size, 2, none⟩ (.string ⟨#[]⟩)).setCell ⟨w.heap.size, 3, none⟩ (.int .i64 0)).setCell ⟨w.heap.size, 4, none⟩ (.int .i64 0))) at hxL
        change Box _ _ _ _ _ _ (((((((((((w11.setCell ⟨L, 0, none⟩ (.int .i64 u.k)).setCell ⟨L, 1, none⟩ (.int .i64 u.n)).setCell ⟨L, 2, none⟩ (.string (tx u.s))).setCell ⟨L, 3, none⟩ (.int .i64 u.x)).setCell ⟨L, 4, none⟩ (.int .i64 u.y)).setCell ⟨w.heap.size, 0, none⟩ (.int .i64 0)).setCell ⟨w.heap.size, 1, none⟩ (.int .i64 0)).setCell ⟨w.heap.size, 2, none⟩ (.string ⟨#[]⟩)).setCell ⟨w.heap.size, 3, none⟩ (.int .i64 0)).setCell ⟨w.heap.size, 4, none⟩ (.int .i64 0))) at hxX
        generalize (((((((((((w11.setCell ⟨L, 0, none⟩ (.int .i64 u.k)).setCell ⟨L, 1, none⟩ (.int .i64 u.n)).setCell ⟨L, 2, none⟩ (.string (tx u.s))).setCell ⟨L, 3, none⟩ (.int .i64 u.x)).setCell ⟨L, 4, none⟩ (.int .i64 u.y)).setCell ⟨w.heap.size, 0, none⟩ (.int .i64 0)).setCell ⟨w.heap.size, 1, none⟩ (.int .i64 0)).setCell ⟨w.heap.size, 2, none⟩ (.string ⟨#[]⟩)).setCell ⟨w.heap.size, 3, none⟩ (.int .i64 0)).setCell ⟨w.heap.size, 4, none⟩ (.int .i64 0))) = w9 at *
        have cL0 := hxL.blk.c 0 _ rfl
        have cL1 := hxL.blk.c 1 _ rfl
        have cL2 := hxL.blk.c 2 _ rfl
        have cL3 := hxL.blk.c 3 _ rfl
        have cL4 := hxL.blk.c 4 _ rfl
        have cX0 := hxX.blk.c 0 _ rfl
        have cX1 := hxX.blk.c 1 _ rfl
        have cX2 := hxX.blk.c 2 _ rfl
        have cX3 := hxX.blk.c 3 _ rfl
        have cX4 := hxX.blk.c 4 _ rfl
        refine leaves_cons (f := 103) (args := #[.pointer (some ⟨b, 0, none⟩), .int .i64 3, .agg #[.int .i64 0, .int .i64 S1.i, .string ⟨#[]⟩, .int .i64 0, .int .i64 0]]) (by simp) (by simp [go_sem]) ?_
        refine (stand3_def w9 S1.i hd9 .returning).mono ?_
        rintro e u w10 ⟨rfl, rfl, hd10, hm10⟩
        have hx10 := hxX.mv hm10
        have kX0 := hx10.blk.c 0 _ rfl; have kX1 := hx10.blk.c 1 _ rfl; have kX2 := hx10.blk.c 2 _ rfl; have kX3 := hx10.blk.c 3 _ rfl; have kX4 := hx10.blk.c 4 _ rfl
        refine ⟨.tuple #[.agg #[.int .i64 0, .int .i64 0, .string ⟨#[]⟩, .int .i64 0, .int .i64 0], .int .i64 x], by simp [results, Tryz.results62, go_sem, kX0, kX1, kX2, kX3, kX4], ⟨vz, x, { S3 with i := S1.i }, n3, ov3, rfl, by rw [HX.out]; exact withI_ans (Ans.er HXX.out rfl HX0.out), hd10, hm9.trans hm10⟩⟩
      · have HXX : Hid (lp (ev d (l.drop y1)) N 0 vz S1 n1 = lp (ev d (l.drop y1)) (N - (j + 1)) ((j + 1 : Nat) : Int) u S3 n3) := by show _ = _; rw [HR.out, bnd_ok hX]
        have HG3 := Lib.hid (HGE.out _ _ _ _ _ HG7.out hX)
        clear hX HA6
        have cL0 := HL11.out.blk.c 0 _ rfl; have zL0 := HL11.out.blk.f 0 _ rfl
        have cL1 := HL11.out.blk.c 1 _ rfl; have zL1 := HL11.out.blk.f 1 _ rfl
        have cL2 := HL11.out.blk.c 2 _ rfl; have zL2 := HL11.out.blk.f 2 _ rfl
        have cL3 := HL11.out.blk.c 3 _ rfl; have zL3 := HL11.out.blk.f 3 _ rfl
        have cL4 := HL11.out.blk.c 4 _ rfl; have zL4 := HL11.out.blk.f 4 _ rfl
        have hltL := HL11.out.blk.lt
        have hd12 := HD11.out.puts HL11.out 0 (vcl u)
        have hm12 := Mv.puts (B := L) HM11.out hwL 0 (vcl u)
        have hx12 := Box.puts_other (C := L) HX11.out hLZ 0 (vcl u)
        have hl12 := Box.puts HL11.out (vcl u) rfl
        have HD12 := Lib.hid hd12; have HM12 := Lib.hid hm12; have HX12 := Lib.hid hx12; have HL12 := Lib.hid hl12
        clear hd12 hm12 hx12 hl12 HD11 HM11 HX11 HL11
        go_wp2_with (fail)
        go_step3
        refine ⟨rfl, ⟨N, S1, n1, L, P, j + 1, u, S3, n3, ov3, _, _, _, _, _, _, _, _, _, _, _, _, _, _, _, _, _, _, _, _, _, _, _, _, _, _, _, _, _, _, _, _, _, _, _, _, _, _, _, _, _, _, _, _, _, hN, HX.out, by omega, HXX.out, HG3.out.2, HD12.out, HM12.out, HX12.out, HL12.out, hLZ, hwL, rfl⟩, ?_⟩
        simp [muE, intOf]; omega
  go_wp2_with (fail)
  refine (HP.out).mono ?_
  rintro e w3 ⟨p0, p1, p2, x, S1, n1, ov1, rfl, ha, r0, r1, r2, hgd, hd3, hm3, hx3⟩
  have HA := Lib.hid ha; have R0 := Lib.hid r0; have R1 := Lib.hid r1; have R2 := Lib.hid r2; have HG := Lib.hid hgd; have HD3 := Lib.hid hd3; have HM3 := Lib.hid hm3; have HX3 := Lib.hid hx3
  have hlZ := hx3.blk.lt
  clear ha r0 r1 r2 hgd hd3 hm3 hx3 HP
  rcases HA.out.cases with ⟨hx0, hX⟩ | ⟨rfl, a, ha, hX⟩
  · have HX0 := Lib.hid hx0; have HXX := Lib.hid hX
    have hx1 : (x == 0) = false := by simpa using hx0
    have hx2 : (x != 0) = true := by simpa using hx0
    clear hx0 hX HA
    have cX0 := HX3.out.blk.c 0 _ rfl; have zX0 := HX3.out.blk.f 0 _ rfl
    have cX1 := HX3.out.blk.c 1 _ rfl; have zX1 := HX3.out.blk.f 1 _ rfl
    have cX2 := HX3.out.blk.c 2 _ rfl; have zX2 := HX3.out.blk.f 2 _ rfl
    have cX3 := HX3.out.blk.c 3 _ rfl; have zX3 := HX3.out.blk.f 3 _ rfl
    have cX4 := HX3.out.blk.c 4 _ rfl; have zX4 := HX3.out.blk.f 4 _ rfl
    have hltX := HX3.out.blk.lt
    go_wp2_with (fail)
    have hd9 := ((HD3.out.puts HX3.out 0 [.int .i64 0, .int .i64 0, .string ⟨#[]⟩, .int .i64 0, .int .i64 0]).old (box1 _ (.cells #[.int .i64 p0.k, .int .i64 p0.n, .string (tx p0.s), .int .i64 p0.x, .int .i64 p0.y, .int .i64 p1.k, .int .i64 p1.n, .string (tx p1.s), .int .i64 p1.x, .int .i64 p1.y, .int .i64 p2.k, .int .i64 p2.n, .string (tx p2.s), .int .i64 p2.x, .int .i64 p2.y] 106)))
    have hm9 := ((Mv.puts (B := w.heap.size) HM3.out (by omega) 0 [.int .i64 0, .int .i64 0, .string ⟨#[]⟩, .int .i64 0, .int .i64 0]).old (box1 _ (.cells #[.int .i64 p0.k, .int .i64 p0.n, .string (tx p0.s), .int .i64 p0.x, .int .i64 p0.y, .int .i64 p1.k, .int .i64 p1.n, .string (tx p1.s), .int .i64 p1.x, .int .i64 p1.y, .int .i64 p2.k, .int .i64 p2.n, .string (tx p2.s), .int .i64 p2.x, .int .i64 p2.y] 106)))
    have hxX := ((Box.puts (HX3.out) [.int .i64 0, .int .i64 0, .string ⟨#[]⟩, .int .i64 0, .int .i64 0] rfl).old (box1 _ (.cells #[.int .i64 p0.k, .int .i64 p0.n, .string (tx p0.s), .int .i64 p0.x, .int .i64 p0.y, .int .i64 p1.k, .int .i64 p1.n, .string (tx p1.s), .int .i64 p1.x, .int .i64 p1.y, .int .i64 p2.k, .int .i64 p2.n, .string (tx p2.s), .int .i64 p2.x, .int .i64 p2.y] 106)))
    clear cX0 zX0 cX1 zX1 cX2 zX2 cX3 zX3 cX4 zX4 HD3 HM3 HX3 
    simp only [Exit.jump]
    change bodyPostD _ _ _ _ _ ((((((w3.setCell ⟨w.heap.size, 0, none⟩ (.int .i64 0)).setCell ⟨w.heap.size, 1, none⟩ (.int .i64 0)).setCell ⟨w.heap.size, 2, none⟩ (.string ⟨#[]⟩)).setCell ⟨w.heap.size, 3, none⟩ (.int .i64 0)).setCell ⟨w.heap.size, 4, none⟩ (.int .i64 0)).alloc (.cells #[.int .i64 p0.k, .int .i64 p0.n, .string (tx p0.s), .int .i64 p0.x, .int .i64 p0.y, .int .i64 p1.k, .int .i64 p1.n, .string (tx p1.s), .int .i64 p1.x, .int .i64 p1.y, .int .i64 p2.k, .int .i64 p2.n, .string (tx p2.s), .int .i64 p2.x, .int .i64 p2.y] 106))
    change Doer _ _ _ _ _ _ _ _ _ (((((((w3.setCell ⟨w.heap.size, 0, none⟩ (.int .i64 0)).setCell ⟨w.heap.size, 1, none⟩ (.int .i64 0)).setCell ⟨w.heap.size, 2, none⟩ (.string ⟨#[]⟩)).setCell ⟨w.heap.size, 3, none⟩ (.int .i64 0)).setCell ⟨w.heap.size, 4, none⟩ (.int .i64 0)).alloc (.cells #[.int .i64 p0.k, .int .i64 p0.n, .string (tx p0.s), .int .i64 p0.x, .int .i64 p0.y, .int .i64 p1.k, .int .i64 p1.n, .string (tx p1.s), .int .i64 p1.x, .int .i64 p1.y, .int .i64 p2.k, .int .i64 p2.n, .string (tx p2.s), .int .i64 p2.x, .int .i64 p2.y] 106))) at hd9
    change Mv _ _ _ _ (((((((w3.setCell ⟨w.heap.size, 0, none⟩ (.int .i64 0)).setCell ⟨w.heap.size, 1, none⟩ (.int .i64 0)).setCell ⟨w.heap.size, 2, none⟩ (.string ⟨#[]⟩)).setCell ⟨w.heap.size, 3, none⟩ (.int .i64 0)).setCell ⟨w.heap.size, 4, none⟩ (.int .i64 0)).alloc (.cells #[.int .i64 p0.k, .int .i64 p0.n, .string (tx p0.s), .int .i64 p0.x, .int .i64 p0.y, .int .i64 p1.k, .int .i64 p1.n, .string (tx p1.s), .int .i64 p1.x, .int .i64 p1.y, .int .i64 p2.k, .int .i64 p2.n, .string (tx p2.s), .int .i64 p2.x, .int .i64 p2.y] 106))) at hm9
    change Box _ _ _ _ _ _ (((((((w3.setCell ⟨w.heap.size, 0, none⟩ (.int .i64 0)).setCell ⟨w.heap.size, 1, none⟩ (.int .i64 0)).setCell ⟨w.heap.size, 2, none⟩ (.string ⟨#[]⟩)).setCell ⟨w.heap.size, 3, none⟩ (.int .i64 0)).setCell ⟨w.heap.size, 4, none⟩ (.int .i64 0)).alloc (.cells #[.int .i64 p0.k, .int .i64 p0.n, .string (tx p0.s), .int .i64 p0.x, .int .i64 p0.y, .int .i64 p1.k, .int .i64 p1.n, .string (tx p1.s), .int .i64 p1.x, .int .i64 p1.y, .int .i64 p2.k, .int .i64 p2.n, .string (tx p2.s), .int .i64 p2.x, .int .i64 p2.y] 106))) at hxX
    generalize (((((((w3.setCell ⟨w.heap.size, 0, none⟩ (.int .i64 0)).setCell ⟨w.heap.size, 1, none⟩ (.int .i64 0)).setCell ⟨w.heap.size, 2, none⟩ (.string ⟨#[]⟩)).setCell ⟨w.heap.size, 3, none⟩ (.int .i64 0)).setCell ⟨w.heap.size, 4, none⟩ (.int .i64 0)).alloc (.cells #[.int .i64 p0.k, .int .i64 p0.n, .string (tx p0.s), .int .i64 p0.x, .int .i64 p0.y, .int .i64 p1.k, .int .i64 p1.n, .string (tx p1.s), .int .i64 p1.x, .int .i64 p1.y, .int .i64 p2.k, .int .i64 p2.n, .string (tx p2.s), .int .i64 p2.x, .int .i64 p2.y] 106))) = w9 at *
    have cX0 := hxX.blk.c 0 _ rfl
    have cX1 := hxX.blk.c 1 _ rfl
    have cX2 := hxX.blk.c 2 _ rfl
    have cX3 := hxX.blk.c 3 _ rfl
    have cX4 := hxX.blk.c 4 _ rfl
    refine ⟨.tuple #[.agg #[.int .i64 0, .int .i64 0, .string ⟨#[]⟩, .int .i64 0, .int .i64 0], .int .i64 x], by simp [results, Tryz.results62, go_sem, cX0, cX1, cX2, cX3, cX4], ⟨vz, x, S1, n1, ov1, rfl, by rw [HBD.out]; exact Ans.er (bnd_er HXX.out) rfl HX0.out, hd9, hm9⟩⟩
  · have HXX := Lib.hid hX; have HAA := Lib.hid ha; have HGD := Lib.hid (HG.out rfl)
    clear hX ha HA HG
    have hn0 := (rt_all R0.out).1
    obtain ⟨hn1, hn2⟩ := hn0
    by_cases hneg : p0.n < 0
    · have HN := Lib.hid hneg
      have cX0 := HX3.out.blk.c 0 _ rfl; have zX0 := HX3.out.blk.f 0 _ rfl
      have cX1 := HX3.out.blk.c 1 _ rfl; have zX1 := HX3.out.blk.f 1 _ rfl
      have cX2 := HX3.out.blk.c 2 _ rfl; have zX2 := HX3.out.blk.f 2 _ rfl
      have cX3 := HX3.out.blk.c 3 _ rfl; have zX3 := HX3.out.blk.f 3 _ rfl
      have cX4 := HX3.out.blk.c 4 _ rfl; have zX4 := HX3.out.blk.f 4 _ rfl
      have hltX := HX3.out.blk.lt
      go_wp2_with (fail)
      have hd9 := ((HD3.out.puts HX3.out 0 [.int .i64 0, .int .i64 0, .string ⟨#[]⟩, .int .i64 0, .int .i64 0]).old (box1 _ (.cells #[.int .i64 p0.k, .int .i64 p0.n, .string (tx p0.s), .int .i64 p0.x, .int .i64 p0.y, .int .i64 p1.k, .int .i64 p1.n, .string (tx p1.s), .int .i64 p1.x, .int .i64 p1.y, .int .i64 p2.k, .int .i64 p2.n, .string (tx p2.s), .int .i64 p2.x, .int .i64 p2.y] 106)))
      have hm9 := ((Mv.puts (B := w.heap.size) HM3.out (by omega) 0 [.int .i64 0, .int .i64 0, .string ⟨#[]⟩, .int .i64 0, .int .i64 0]).old (box1 _ (.cells #[.int .i64 p0.k, .int .i64 p0.n, .string (tx p0.s), .int .i64 p0.x, .int .i64 p0.y, .int .i64 p1.k, .int .i64 p1.n, .string (tx p1.s), .int .i64 p1.x, .int .i64 p1.y, .int .i64 p2.k, .int .i64 p2.n, .string (tx p2.s), .int .i64 p2.x, .int .i64 p2.y] 106)))
      have hxX := ((Box.puts (HX3.out) [.int .i64 0, .int .i64 0, .string ⟨#[]⟩, .int .i64 0, .int .i64 0] rfl).old (box1 _ (.cells #[.int .i64 p0.k, .int .i64 p0.n, .string (tx p0.s), .int .i64 p0.x, .int .i64 p0.y, .int .i64 p1.k, .int .i64 p1.n, .string (tx p1.s), .int .i64 p1.x, .int .i64 p1.y, .int .i64 p2.k, .int .i64 p2.n, .string (tx p2.s), .int .i64 p2.x, .int .i64 p2.y] 106)))
      clear cX0 zX0 cX1 zX1 cX2 zX2 cX3 zX3 cX4 zX4 HD3 HM3 HX3 
      simp only [Exit.jump]
      change bodyPostD _ _ _ _ _ ((((((w3.setCell ⟨w.heap.size, 0, none⟩ (.int .i64 0)).setCell ⟨w.heap.size, 1, none⟩ (.int .i64 0)).setCell ⟨w.heap.size, 2, none⟩ (.string ⟨#[]⟩)).setCell ⟨w.heap.size, 3, none⟩ (.int .i64 0)).setCell ⟨w.heap.size, 4, none⟩ (.int .i64 0)).alloc (.cells #[.int .i64 p0.k, .int .i64 p0.n, .string (tx p0.s), .int .i64 p0.x, .int .i64 p0.y, .int .i64 p1.k, .int .i64 p1.n, .string (tx p1.s), .int .i64 p1.x, .int .i64 p1.y, .int .i64 p2.k, .int .i64 p2.n, .string (tx p2.s), .int .i64 p2.x, .int .i64 p2.y] 106))
      change Doer _ _ _ _ _ _ _ _ _ (((((((w3.setCell ⟨w.heap.size, 0, none⟩ (.int .i64 0)).setCell ⟨w.heap.size, 1, none⟩ (.int .i64 0)).setCell ⟨w.heap.size, 2, none⟩ (.string ⟨#[]⟩)).setCell ⟨w.heap.size, 3, none⟩ (.int .i64 0)).setCell ⟨w.heap.size, 4, none⟩ (.int .i64 0)).alloc (.cells #[.int .i64 p0.k, .int .i64 p0.n, .string (tx p0.s), .int .i64 p0.x, .int .i64 p0.y, .int .i64 p1.k, .int .i64 p1.n, .string (tx p1.s), .int .i64 p1.x, .int .i64 p1.y, .int .i64 p2.k, .int .i64 p2.n, .string (tx p2.s), .int .i64 p2.x, .int .i64 p2.y] 106))) at hd9
      change Mv _ _ _ _ (((((((w3.setCell ⟨w.heap.size, 0, none⟩ (.int .i64 0)).setCell ⟨w.heap.size, 1, none⟩ (.int .i64 0)).setCell ⟨w.heap.size, 2, none⟩ (.string ⟨#[]⟩)).setCell ⟨w.heap.size, 3, none⟩ (.int .i64 0)).setCell ⟨w.heap.size, 4, none⟩ (.int .i64 0)).alloc (.cells #[.int .i64 p0.k, .int .i64 p0.n, .string (tx p0.s), .int .i64 p0.x, .int .i64 p0.y, .int .i64 p1.k, .int .i64 p1.n, .string (tx p1.s), .int .i64 p1.x, .int .i64 p1.y, .int .i64 p2.k, .int .i64 p2.n, .string (tx p2.s), .int .i64 p2.x, .int .i64 p2.y] 106))) at hm9
      change Box _ _ _ _ _ _ (((((((w3.setCell ⟨w.heap.size, 0, none⟩ (.int .i64 0)).setCell ⟨w.heap.size, 1, none⟩ (.int .i64 0)).setCell ⟨w.heap.size, 2, none⟩ (.string ⟨#[]⟩)).setCell ⟨w.heap.size, 3, none⟩ (.int .i64 0)).setCell ⟨w.heap.size, 4, none⟩ (.int .i64 0)).alloc (.cells #[.int .i64 p0.k, .int .i64 p0.n, .string (tx p0.s), .int .i64 p0.x, .int .i64 p0.y, .int .i64 p1.k, .int .i64 p1.n, .string (tx p1.s), .int .i64 p1.x, .int .i64 p1.y, .int .i64 p2.k, .int .i64 p2.n, .string (tx p2.s), .int .i64 p2.x, .int .i64 p2.y] 106))) at hxX
      generalize (((((((w3.setCell ⟨w.heap.size, 0, none⟩ (.int .i64 0)).setCell ⟨w.heap.size, 1, none⟩ (.int .i64 0)).setCell ⟨w.heap.size, 2, none⟩ (.string ⟨#[]⟩)).setCell ⟨w.heap.size, 3, none⟩ (.int .i64 0)).setCell ⟨w.heap.size, 4, none⟩ (.int .i64 0)).alloc (.cells #[.int .i64 p0.k, .int .i64 p0.n, .string (tx p0.s), .int .i64 p0.x, .int .i64 p0.y, .int .i64 p1.k, .int .i64 p1.n, .string (tx p1.s), .int .i64 p1.x, .int .i64 p1.y, .int .i64 p2.k, .int .i64 p2.n, .string (tx p2.s), .int .i64 p2.x, .int .i64 p2.y] 106))) = w9 at *
      have cX0 := hxX.blk.c 0 _ rfl
      have cX1 := hxX.blk.c 1 _ rfl
      have cX2 := hxX.blk.c 2 _ rfl
      have cX3 := hxX.blk.c 3 _ rfl
      have cX4 := hxX.blk.c 4 _ rfl
      refine ⟨.tuple #[.agg #[.int .i64 0, .int .i64 0, .string ⟨#[]⟩, .int .i64 0, .int .i64 0], .int .i64 14], by simp [results, Tryz.results62, go_sem, cX0, cX1, cX2, cX3, cX4], ⟨vz, 14, S1, n1, ov1, rfl, by rw [HBD.out]; obtain ⟨rfl, rfl, rfl⟩ := HAA.out; exact Ans.er (by rw [bnd_ok HXX.out, if_pos HN.out]; rfl) rfl (by decide), hd9, hm9⟩⟩
    · obtain ⟨N, hN⟩ : ∃ N : Nat, p0.n = (N : Int) := ⟨p0.n.toNat, by omega⟩
      have hNb : N ≤ 9007199254740992 := by omega
      have HXE : Hid (body (ev d) (nd l k) (l.drop (k + 1)) S n = withI (lp (ev d (l.drop y1)) N 0 vz) S1 n1) := by
        show _ = _
        rw [HBD.out, bnd_ok HXX.out, HN1.out]; obtain ⟨rfl, rfl, rfl⟩ := HAA.out
        rw [if_neg hneg, hN]; rfl
      have hlb3 := HD3.out.blk.lt
      have d0 : w3.cell? ⟨b, 47, none⟩ = some (.int .i64 0) := HD3.out.blk.c 47 _ rfl
      have d1 : w3.cell? ⟨b, 48, none⟩ = some (.int .i64 S1.i) := HD3.out.blk.c 48 _ rfl
      have d2 : w3.cell? ⟨b, 49, none⟩ = some (.string ⟨#[]⟩) := HD3.out.blk.c 49 _ rfl
      have d3 : w3.cell? ⟨b, 50, none⟩ = some (.int .i64 0) := HD3.out.blk.c 50 _ rfl
      have d4 : w3.cell? ⟨b, 51, none⟩ = some (.int .i64 0) := HD3.out.blk.c 51 _ rfl
      obtain ⟨q0, q1, q2, q3, q4⟩ : True ∧ True ∧ True ∧ True ∧ True := ⟨trivial, trivial, trivial, trivial, trivial⟩
      obtain ⟨X0, hX0⟩ : ∃ X0, lp (ev d (l.drop y1)) N 0 vz S1 n1 = X0 := ⟨_, rfl⟩
      have HXL := Lib.hid hX0
      clear hX0 hneg HBD HXX HAA q0 q1 q2 q3 q4
      have hd9 := (HD3.out.old (box1 w3 (.cells #[.int .i64 p0.k, .int .i64 (N : Int), .string (tx p0.s), .int .i64 p0.x, .int .i64 p0.y, .int .i64 p1.k, .int .i64 p1.n, .string (tx p1.s), .int .i64 p1.x, .int .i64 p1.y, .int .i64 p2.k, .int .i64 p2.n, .string (tx p2.s), .int .i64 p2.x, .int .i64 p2.y] 106))).old (box1 _ (.cells #[.int .i64 0, .int .i64 0, .string ⟨#[]⟩, .int .i64 0, .int .i64 0] 26))
      have hm9 := (HM3.out.old (box1 w3 (.cells #[.int .i64 p0.k, .int .i64 (N : Int), .string (tx p0.s), .int .i64 p0.x, .int .i64 p0.y, .int .i64 p1.k, .int .i64 p1.n, .string (tx p1.s), .int .i64 p1.x, .int .i64 p1.y, .int .i64 p2.k, .int .i64 p2.n, .string (tx p2.s), .int .i64 p2.x, .int .i64 p2.y] 106))).old (box1 _ (.cells #[.int .i64 0, .int .i64 0, .string ⟨#[]⟩, .int .i64 0, .int .i64 0] 26))
      have hx9 := (HX3.out.old (box1 w3 (.cells #[.int .i64 p0.k, .int .i64 (N : Int), .string (tx p0.s), .int .i64 p0.x, .int .i64 p0.y, .int .i64 p1.k, .int .i64 p1.n, .string (tx p1.s), .int .i64 p1.x, .int .i64 p1.y, .int .i64 p2.k, .int .i64 p2.n, .string (tx p2.s), .int .i64 p2.x, .int .i64 p2.y] 106))).old (box1 _ (.cells #[.int .i64 0, .int .i64 0, .string ⟨#[]⟩, .int .i64 0, .int .i64 0] 26))
      have hl9 := Box.made (HD3.out.old (box1 w3 (.cells #[.int .i64 p0.k, .int .i64 (N : Int), .string (tx p0.s), .int .i64 p0.x, .int .i64 p0.y, .int .i64 p1.k, .int .i64 p1.n, .string (tx p1.s), .int .i64 p1.x, .int .i64 p1.y, .int .i64 p2.k, .int .i64 p2.n, .string (tx p2.s), .int .i64 p2.x, .int .i64 p2.y] 106))) (by omega) 26 [.int .i64 0, .int .i64 0, .string ⟨#[]⟩, .int .i64 0, .int .i64 0]
      rw [World.size_alloc] at hl9
      have HD9 := Lib.hid hd9; have HM9 := Lib.hid hm9; have HX9 := Lib.hid hx9; have HL9 := Lib.hid hl9
      clear hd9 hm9 hx9 hl9
      go_wp2_with (fail)
      go_step3
      rename_i hK
      exact hK _ _ (NX.out _ _ ⟨N, S1, n1, w3.heap.size + 1, _, 0, vz, S1, n1, ov1, _, _, _, _, _, _, _, _, _, _, _, _, _, _, _, _, _, _, _, _, _, _, _, _, _, _, _, _, _, _, _, _, _, _, _, _, _, _, _, _, _, _, _, _, _, hNb, HXE.out, Nat.zero_le _, rfl, HGD.out, HD9.out, HM9.out, HX9.out, HL9.out, by omega, by omega, rfl⟩)
end Go.Proofs.YtcdjincaedpodaaGreatDoor.Ev
/-
  A value of its own memory.
-/
namespace Go.Proofs.YtcdjincaedpodaaGreatDoor.Ev
open Go.ChangeShapes Go.WideShapes Go.ChangeAt Go.RowKit Go.Proofs.YtcdjincaedpodaaGreatDoor.Ov Go.Proofs.YtcdjincaedpodaaGreatDoor.Va Go.Proofs.YtcdjincaedpodaaGreatDoor.Ga

set_option maxHeartbeats 1000000 in
theorem own_any (k n x y : Int) (s : ByteArray) (hs : s.size ≤ 281474976710656) (w : World) : Calls Tryz.prog 23 #[.agg #[.int .i64 k, .int .i64 n, .string s, .int .i64 x, .int .i64 y]] w (Gives (.agg #[.int .i64 k, .int .i64 n, .string s, .int .i64 x, .int .i64 y]) w) := by
  have hby : Blk ((w.alloc (.cells #[.int .i64 k, .int .i64 n, .string s, .int .i64 x, .int .i64 y] 26)).alloc (.cells #[.int .i64 0, .int .i64 0, .string ⟨#[]⟩, .int .i64 0, .int .i64 0] 26)) w.heap.size (vcs k n s x y) := (Blk.made w 26 (vcs k n s x y) rfl).old _
  have hbx : Blk ((w.alloc (.cells #[.int .i64 k, .int .i64 n, .string s, .int .i64 x, .int .i64 y] 26)).alloc (.cells #[.int .i64 0, .int .i64 0, .string ⟨#[]⟩, .int .i64 0, .int .i64 0] 26)) (w.heap.size + 1) (vcs 0 0 ⟨#[]⟩ 0 0) := Blk.made (w.alloc (.cells #[.int .i64 k, .int .i64 n, .string s, .int .i64 x, .int .i64 y] 26)) 26 (vcs 0 0 ⟨#[]⟩ 0 0) (by simp)
  have hbb := box2 w (.cells #[.int .i64 k, .int .i64 n, .string s, .int .i64 x, .int .i64 y] 26) (.cells #[.int .i64 0, .int .i64 0, .string ⟨#[]⟩, .int .i64 0, .int .i64 0] 26)
  have HX := Lib.hid hbx; have HY := Lib.hid hby; have HB := Lib.hid hbb
  have HC := Lib.hid (fun w1 => clone_any s w1 hs)
  clear hbx hby hbb
  go_enter Tryz.func23, Tryz.ntmps23
  go_wp2_with (fail)
  refine (HC.out _).mono ?_
  rintro e w1 ⟨rfl, hb⟩
  have HX1 := Lib.hid (HX.out.next hb); have HY1 := Lib.hid (HY.out.next hb); have HB1 := Lib.hid (Below.next HB.out hb)
  clear hb HX HY HB HC
  have c0 := HX1.out.v0; have c1 := HX1.out.v1; have c2 := HX1.out.v2; have c3 := HX1.out.v3; have c4 := HX1.out.v4
  have z0 := HX1.out.g0; have z1 := HX1.out.g1; have z2 := HX1.out.g2; have z3 := HX1.out.g3; have z4 := HX1.out.g4
  have y0 := HY1.out.v0; have y1 := HY1.out.v1; have y2 := HY1.out.v2; have y3 := HY1.out.v3; have y4 := HY1.out.v4
  have f2 := HY1.out.g2
  go_wp2_with (fail)
  have hx2 := HX1.out.put (show w.heap.size ≠ w.heap.size + 1 by omega) 2 (.string s)
  have h3 := Blk.all5 hx2 (.int .i64 k) (.int .i64 n) (.string s) (.int .i64 x) (.int .i64 y)
  have hb2 : Below w.heap.size w (w1.setCell ⟨w.heap.size, 2, none⟩ (.string s)) := HB1.out.setCell (Nat.le_refl _) _
  have hb3 := below_all5 hb2 (b := w.heap.size + 1) (by omega) (.int .i64 k) (.int .i64 n) (.string s) (.int .i64 x) (.int .i64 y)
  clear c0 c1 c2 c3 c4 z0 z1 z2 z3 z4 y0 y1 y2 y3 y4 f2 hx2
  generalize ((((((w1.setCell ⟨w.heap.size, 2, none⟩ (.string s)).setCell ⟨w.heap.size + 1, 0, none⟩ (.int .i64 k)).setCell ⟨w.heap.size + 1, 1, none⟩ (.int .i64 n)).setCell ⟨w.heap.size + 1, 2, none⟩ (.string s)).setCell ⟨w.heap.size + 1, 3, none⟩ (.int .i64 x)).setCell ⟨w.heap.size + 1, 4, none⟩ (.int .i64 y)) = w4 at *
  have c0 := h3.c 0 _ rfl; have c1 := h3.c 1 _ rfl; have c2 := h3.c 2 _ rfl; have c3 := h3.c 3 _ rfl; have c4 := h3.c 4 _ rfl
  refine bodyPost_ret (v := .agg #[.int .i64 k, .int .i64 n, .string s, .int .i64 x, .int .i64 y]) (by simp [results, Tryz.results23, go_sem, c0, c1, c2, c3, c4]) rfl ⟨rfl, hb3⟩
end Go.Proofs.YtcdjincaedpodaaGreatDoor.Ev
/-
  The doer's pairs grow by one.
-/
namespace Go.Proofs.YtcdjincaedpodaaGreatDoor.Ev
open Go.ChangeShapes Go.WideShapes Go.ChangeAt Go.RowKit Go.Proofs.YtcdjincaedpodaaGreatDoor.Ov Go.Proofs.YtcdjincaedpodaaGreatDoor.Va Go.Proofs.YtcdjincaedpodaaGreatDoor.Ex

theorem infoP : (Tryz.prog.info? 58).map (fun i => (i.zero, i.size, i.bytes)) = some (some (.agg (pcl ([], vz)).toArray), 6, 64) := by kernel_rfl
theorem pair_at (W : World) (p : List UInt8 × Va) (ty : TypeId) (b : Nat) (hb : b = W.heap.size) : ∀ j u, (pcl p)[j]? = some u → (W.alloc (.cells #[.string (tx p.1), .int .i64 p.2.k, .int .i64 p.2.n, .string (tx p.2.s), .int .i64 p.2.x, .int .i64 p.2.y] ty)).cell? ((⟨b, 0, none⟩ : Addr).add j) = some u := by
  intro j u hu
  subst hb
  have e : (⟨W.heap.size, 0, none⟩ : Addr).add j = ⟨W.heap.size, j, none⟩ := by
    unfold Addr.add
    split
    · rename_i h; subst h; rfl
    · simp
  rw [e]
  exact (Blk.made W ty (pcl p) rfl).c j u hu
section
variable {w0 W w' : World} {A : Option Addr} {c E b n g cap : Nat} {l : List No} {S : St} {ov : Value} {p : List UInt8 × Va}
theorem Doer.cell_far (h : Doer w0 A c E b l S n ov W) (hg : W.grownBy w' ov.ownBlock) : w'.cell? ⟨b, 57, none⟩ = some ov ∧ w'.frozen? ⟨b, 57, none⟩ = false :=
  ⟨(hg.cell_far ⟨b, 57, none⟩ h.lt (fun e => h.sb e.symm)).trans (h.blk.c 57 _ rfl), (hg.frozen_far ⟨b, 57, none⟩ h.lt (fun e => h.sb e.symm)).trans (h.blk.f 57 _ rfl)⟩
theorem Doer.grown (h : Doer w0 A c E b l S n ov W) (hl : 0 < l.length) (ho : w'.ownsRow w0.heap.size 58 6 (.slice (some ⟨g, 0, none⟩) (S.out.length + 1) cap) (S.out.length + 1) (pcells S.out ++ pcl p)) (hg : W.grownBy w' ov.ownBlock) (hgr : ov.ownBlock = some g ∨ g = W.heap.size) :
    Doer w0 A c E b l { S with out := S.out ++ [p] } n (.slice (some ⟨g, 0, none⟩) (S.out.length + 1) cap) (w'.setCell ⟨b, 57, none⟩ (.slice (some ⟨g, 0, none⟩) (S.out.length + 1) cap)) ∧
    Mv b ov W (.slice (some ⟨g, 0, none⟩) (S.out.length + 1) cap) (w'.setCell ⟨b, 57, none⟩ (.slice (some ⟨g, 0, none⟩) (S.out.length + 1) cap)) := by
  have hEl := h.ltE hl
  have hbl := h.lt
  have hgb : g ≠ b := fun e => by
    rcases hgr with e1 | e1
    · exact h.sb (by rw [e1, e])
    · omega
  have hgE : g ≠ E := fun e => by
    rcases hgr with e1 | e1
    · exact h.sE (by rw [e1, e])
    · omega
  have hv : (Value.slice (some ⟨g, 0, none⟩) (S.out.length + 1) cap).ownBlock = some g := rfl
  have hblk : Blk w' b (dcs A c E b l.length S n ov) := ⟨fun i v x => (hg.cell_far ⟨b, i, none⟩ hbl (fun e => h.sb e.symm)).trans (h.blk.c i v x), fun i v x => (hg.frozen_far ⟨b, i, none⟩ hbl (fun e => h.sb e.symm)).trans (h.blk.f i v x), Nat.lt_of_lt_of_le hbl hg.size⟩
  refine ⟨⟨(h.fro.grown hg h.fro.size (fun k e => (h.out.lt k e).1)).setCell h.hb _, h.hb, h.hE, h.ne, (hblk.set 57 _).cast rfl, fun i hi => ?_, ?_, fun e => hgb (by rw [hv] at e; exact Option.some.inj e), fun e => hgE (by rw [hv] at e; exact Option.some.inj e)⟩,
    ⟨hg.os, hg.tape, hg.output, by simpa using hg.size, fun k hk hkb hko => (Below.heap_setCell _ _ _ _ hkb).trans (hg.block k hk (fun e => hko e.symm)), ?_⟩⟩
  · rw [World.cell?_setCell_other _ _ _ _ (fun e => h.ne (by injection e with e1; exact e1.symm))]
    exact (hg.cell_far ⟨E, i, none⟩ hEl (fun e => h.sE e.symm)).trans (h.beh i hi)
  · show World.ownsRow _ _ _ _ _ (S.out ++ [p]).length _
    rw [pcells_snoc, List.length_append]
    exact ownsRow_setCell_other ho (by rw [hv]; exact fun e => hgb (Option.some.inj e)) _
  · rw [hv]
    rcases hgr with e1 | e1
    · exact .inl e1.symm
    · exact .inr ⟨g, rfl, by omega⟩
end
end Go.Proofs.YtcdjincaedpodaaGreatDoor.Ev
/-
  Emit (written by gen_evalike.py).
-/
namespace Go.Proofs.YtcdjincaedpodaaGreatDoor.Ev
open Go.ChangeShapes Go.WideShapes Go.ChangeAt Go.RowKit Go.Proofs.YtcdjincaedpodaaGreatDoor.Ov Go.Proofs.YtcdjincaedpodaaGreatDoor.Va Go.Proofs.YtcdjincaedpodaaGreatDoor.Ga Go.Proofs.YtcdjincaedpodaaGreatDoor.Ex

theorem emit_big {l : List Va} (h : 64 < (at0 l).s.length) (S : St) (n : Nat) : af 26 l S n = .er 3 := by
  show (if 64 < (at0 l).s.length then fail 3 else emitM (at0 l).s (at1 l)) S n = _
  rw [if_pos h]; rfl
theorem emit_many {l : List Va} (h : ¬ 64 < (at0 l).s.length) {S : St} (hs : 64 ≤ S.out.length) (n : Nat) : af 26 l S n = .er 22 := by
  show (if 64 < (at0 l).s.length then fail 3 else emitM (at0 l).s (at1 l)) S n = _
  rw [if_neg h]; unfold emitM; rw [if_pos hs]
theorem emit_ok {l : List Va} (h : ¬ 64 < (at0 l).s.length) {S : St} (hs : ¬ 64 ≤ S.out.length) (n : Nat) : af 26 l S n = .ok (at1 l) { S with out := S.out ++ [((at0 l).s, at1 l)] } n := by
  show (if 64 < (at0 l).s.length then fail 3 else emitM (at0 l).s (at1 l)) S n = _
  rw [if_neg h]; unfold emitM; rw [if_neg hs]
set_option maxRecDepth 100000 in
set_option maxHeartbeats 16000000 in
theorem deed_emit {d : Nat} (HD : DoC (ev d) d) : DeedC d 26 60 := by
  intro w0 A c E b l S n ov w k r hcx hd hg hkl ho hrn hx hd24
  have HBD : Hid (body (ev d) (nd l k) (l.drop (k + 1)) S n = bnd (prt (ev d) [1, -1] (l.drop (k + 1))) (af 26) S n) := by show _ = _; exact congrFun (congrFun (body_prt ho (by decide) (by decide) (by decide) (by decide) (by decide) (by decide)) S) n
  have HP := Lib.hid (pre_any HD [1, -1] (by decide) (by decide) (by decide) hcx hd hg hkl hx (by decide) hd24)
  clear hcx hd hg ho hrn hx hd24 HD
  go_enter Tryz.func60, Tryz.ntmps60
  go_wp2_with (fail)
  refine (HP.out).mono ?_
  rintro e w3 ⟨p0, p1, p2, x, S1, n1, ov1, rfl, ha, r0, r1, r2, hgd, hd3, hm3, hx3⟩
  have HA := Lib.hid ha; have R0 := Lib.hid r0; have R1 := Lib.hid r1; have R2 := Lib.hid r2; have HG := Lib.hid hgd; have HD3 := Lib.hid hd3; have HM3 := Lib.hid hm3; have HX3 := Lib.hid hx3
  have hlZ := hx3.blk.lt
  clear ha r0 r1 r2 hgd hd3 hm3 hx3 HP
  rcases HA.out.cases with ⟨hx0, hX⟩ | ⟨rfl, a, ha, hX⟩
  · have HX0 := Lib.hid hx0; have HXX := Lib.hid hX
    have hx1 : (x == 0) = false := by simpa using hx0
    have hx2 : (x != 0) = true := by simpa using hx0
    clear hx0 hX HA
    have cX0 := HX3.out.blk.c 0 _ rfl; have zX0 := HX3.out.blk.f 0 _ rfl
    have cX1 := HX3.out.blk.c 1 _ rfl; have zX1 := HX3.out.blk.f 1 _ rfl
    have cX2 := HX3.out.blk.c 2 _ rfl; have zX2 := HX3.out.blk.f 2 _ rfl
    have cX3 := HX3.out.blk.c 3 _ rfl; have zX3 := HX3.out.blk.f 3 _ rfl
    have cX4 := HX3.out.blk.c 4 _ rfl; have zX4 := HX3.out.blk.f 4 _ rfl
    have hltX := HX3.out.blk.lt
    go_wp2_with (fail)
    have hd9 := ((HD3.out.puts HX3.out 0 [.int .i64 0, .int .i64 0, .string ⟨#[]⟩, .int .i64 0, .int .i64 0]).old (box1 _ (.cells #[.int .i64 p0.k, .int .i64 p0.n, .string (tx p0.s), .int .i64 p0.x, .int .i64 p0.y, .int .i64 p1.k, .int .i64 p1.n, .string (tx p1.s), .int .i64 p1.x, .int .i64 p1.y, .int .i64 p2.k, .int .i64 p2.n, .string (tx p2.s), .int .i64 p2.x, .int .i64 p2.y] 106)))
    have hm9 := ((Mv.puts (B := w.heap.size) HM3.out (by omega) 0 [.int .i64 0, .int .i64 0, .string ⟨#[]⟩, .int .i64 0, .int .i64 0]).old (box1 _ (.cells #[.int .i64 p0.k, .int .i64 p0.n, .string (tx p0.s), .int .i64 p0.x, .int .i64 p0.y, .int .i64 p1.k, .int .i64 p1.n, .string (tx p1.s), .int .i64 p1.x, .int .i64 p1.y, .int .i64 p2.k, .int .i64 p2.n, .string (tx p2.s), .int .i64 p2.x, .int .i64 p2.y] 106)))
    have hxX := ((Box.puts (HX3.out) [.int .i64 0, .int .i64 0, .string ⟨#[]⟩, .int .i64 0, .int .i64 0] rfl).old (box1 _ (.cells #[.int .i64 p0.k, .int .i64 p0.n, .string (tx p0.s), .int .i64 p0.x, .int .i64 p0.y, .int .i64 p1.k, .int .i64 p1.n, .string (tx p1.s), .int .i64 p1.x, .int .i64 p1.y, .int .i64 p2.k, .int .i64 p2.n, .string (tx p2.s), .int .i64 p2.x, .int .i64 p2.y] 106)))
    clear cX0 zX0 cX1 zX1 cX2 zX2 cX3 zX3 cX4 zX4 HD3 HM3 HX3 
    change bodyPost _ _ _ _ _ ((((((w3.setCell ⟨w.heap.size, 0, none⟩ (.int .i64 0)).setCell ⟨w.heap.size, 1, none⟩ (.int .i64 0)).setCell ⟨w.heap.size, 2, none⟩ (.string ⟨#[]⟩)).setCell ⟨w.heap.size, 3, none⟩ (.int .i64 0)).setCell ⟨w.heap.size, 4, none⟩ (.int .i64 0)).alloc (.cells #[.int .i64 p0.k, .int .i64 p0.n, .string (tx p0.s), .int .i64 p0.x, .int .i64 p0.y, .int .i64 p1.k, .int .i64 p1.n, .string (tx p1.s), .int .i64 p1.x, .int .i64 p1.y, .int .i64 p2.k, .int .i64 p2.n, .string (tx p2.s), .int .i64 p2.x, .int .i64 p2.y] 106))
    change Doer _ _ _ _ _ _ _ _ _ (((((((w3.setCell ⟨w.heap.size, 0, none⟩ (.int .i64 0)).setCell ⟨w.heap.size, 1, none⟩ (.int .i64 0)).setCell ⟨w.heap.size, 2, none⟩ (.string ⟨#[]⟩)).setCell ⟨w.heap.size, 3, none⟩ (.int .i64 0)).setCell ⟨w.heap.size, 4, none⟩ (.int .i64 0)).alloc (.cells #[.int .i64 p0.k, .int .i64 p0.n, .string (tx p0.s), .int .i64 p0.x, .int .i64 p0.y, .int .i64 p1.k, .int .i64 p1.n, .string (tx p1.s), .int .i64 p1.x, .int .i64 p1.y, .int .i64 p2.k, .int .i64 p2.n, .string (tx p2.s), .int .i64 p2.x, .int .i64 p2.y] 106))) at hd9
    change Mv _ _ _ _ (((((((w3.setCell ⟨w.heap.size, 0, none⟩ (.int .i64 0)).setCell ⟨w.heap.size, 1, none⟩ (.int .i64 0)).setCell ⟨w.heap.size, 2, none⟩ (.string ⟨#[]⟩)).setCell ⟨w.heap.size, 3, none⟩ (.int .i64 0)).setCell ⟨w.heap.size, 4, none⟩ (.int .i64 0)).alloc (.cells #[.int .i64 p0.k, .int .i64 p0.n, .string (tx p0.s), .int .i64 p0.x, .int .i64 p0.y, .int .i64 p1.k, .int .i64 p1.n, .string (tx p1.s), .int .i64 p1.x, .int .i64 p1.y, .int .i64 p2.k, .int .i64 p2.n, .string (tx p2.s), .int .i64 p2.x, .int .i64 p2.y] 106))) at hm9
    change Box _ _ _ _ _ _ (((((((w3.setCell ⟨w.heap.size, 0, none⟩ (.int .i64 0)).setCell ⟨w.heap.size, 1, none⟩ (.int .i64 0)).setCell ⟨w.heap.size, 2, none⟩ (.string ⟨#[]⟩)).setCell ⟨w.heap.size, 3, none⟩ (.int .i64 0)).setCell ⟨w.heap.size, 4, none⟩ (.int .i64 0)).alloc (.cells #[.int .i64 p0.k, .int .i64 p0.n, .string (tx p0.s), .int .i64 p0.x, .int .i64 p0.y, .int .i64 p1.k, .int .i64 p1.n, .string (tx p1.s), .int .i64 p1.x, .int .i64 p1.y, .int .i64 p2.k, .int .i64 p2.n, .string (tx p2.s), .int .i64 p2.x, .int .i64 p2.y] 106))) at hxX
    generalize (((((((w3.setCell ⟨w.heap.size, 0, none⟩ (.int .i64 0)).setCell ⟨w.heap.size, 1, none⟩ (.int .i64 0)).setCell ⟨w.heap.size, 2, none⟩ (.string ⟨#[]⟩)).setCell ⟨w.heap.size, 3, none⟩ (.int .i64 0)).setCell ⟨w.heap.size, 4, none⟩ (.int .i64 0)).alloc (.cells #[.int .i64 p0.k, .int .i64 p0.n, .string (tx p0.s), .int .i64 p0.x, .int .i64 p0.y, .int .i64 p1.k, .int .i64 p1.n, .string (tx p1.s), .int .i64 p1.x, .int .i64 p1.y, .int .i64 p2.k, .int .i64 p2.n, .string (tx p2.s), .int .i64 p2.x, .int .i64 p2.y] 106))) = w9 at *
    have cX0 := hxX.blk.c 0 _ rfl
    have cX1 := hxX.blk.c 1 _ rfl
    have cX2 := hxX.blk.c 2 _ rfl
    have cX3 := hxX.blk.c 3 _ rfl
    have cX4 := hxX.blk.c 4 _ rfl
    refine bodyPost_ret (v := .tuple #[.agg #[.int .i64 0, .int .i64 0, .string ⟨#[]⟩, .int .i64 0, .int .i64 0], .int .i64 x]) (by simp [results, Tryz.results60, go_sem, cX0, cX1, cX2, cX3, cX4]) rfl ⟨vz, x, S1, n1, ov1, rfl, by rw [HBD.out]; exact Ans.er (bnd_er HXX.out) rfl HX0.out, hd9, hm9⟩
  · have HXX := Lib.hid hX; have HAA := Lib.hid ha; have HGD := Lib.hid (HG.out rfl)
    clear hX ha HA HG
    have h0 := (rt_all R0.out).2.1; have h1 := (rt_all R1.out).2.1
    have hs0 := tx_size p0.s; have hs1 := tx_size p1.s
    by_cases hbig : 64 < p0.s.length
    · have hbig2 : 64 < (tx p0.s).size := by omega
      have HBIG := Lib.hid hbig; clear hbig
      have cX0 := HX3.out.blk.c 0 _ rfl; have zX0 := HX3.out.blk.f 0 _ rfl
      have cX1 := HX3.out.blk.c 1 _ rfl; have zX1 := HX3.out.blk.f 1 _ rfl
      have cX2 := HX3.out.blk.c 2 _ rfl; have zX2 := HX3.out.blk.f 2 _ rfl
      have cX3 := HX3.out.blk.c 3 _ rfl; have zX3 := HX3.out.blk.f 3 _ rfl
      have cX4 := HX3.out.blk.c 4 _ rfl; have zX4 := HX3.out.blk.f 4 _ rfl
      have hltX := HX3.out.blk.lt
      go_wp2_with (fail)
      have hd9 := ((HD3.out.puts HX3.out 0 [.int .i64 0, .int .i64 0, .string ⟨#[]⟩, .int .i64 0, .int .i64 0]).old (box1 _ (.cells #[.int .i64 p0.k, .int .i64 p0.n, .string (tx p0.s), .int .i64 p0.x, .int .i64 p0.y, .int .i64 p1.k, .int .i64 p1.n, .string (tx p1.s), .int .i64 p1.x, .int .i64 p1.y, .int .i64 p2.k, .int .i64 p2.n, .string (tx p2.s), .int .i64 p2.x, .int .i64 p2.y] 106)))
      have hm9 := ((Mv.puts (B := w.heap.size) HM3.out (by omega) 0 [.int .i64 0, .int .i64 0, .string ⟨#[]⟩, .int .i64 0, .int .i64 0]).old (box1 _ (.cells #[.int .i64 p0.k, .int .i64 p0.n, .string (tx p0.s), .int .i64 p0.x, .int .i64 p0.y, .int .i64 p1.k, .int .i64 p1.n, .string (tx p1.s), .int .i64 p1.x, .int .i64 p1.y, .int .i64 p2.k, .int .i64 p2.n, .string (tx p2.s), .int .i64 p2.x, .int .i64 p2.y] 106)))
      have hxX := ((Box.puts (HX3.out) [.int .i64 0, .int .i64 0, .string ⟨#[]⟩, .int .i64 0, .int .i64 0] rfl).old (box1 _ (.cells #[.int .i64 p0.k, .int .i64 p0.n, .string (tx p0.s), .int .i64 p0.x, .int .i64 p0.y, .int .i64 p1.k, .int .i64 p1.n, .string (tx p1.s), .int .i64 p1.x, .int .i64 p1.y, .int .i64 p2.k, .int .i64 p2.n, .string (tx p2.s), .int .i64 p2.x, .int .i64 p2.y] 106)))
      clear cX0 zX0 cX1 zX1 cX2 zX2 cX3 zX3 cX4 zX4 HD3 HM3 HX3 
      change bodyPost _ _ _ _ _ ((((((w3.setCell ⟨w.heap.size, 0, none⟩ (.int .i64 0)).setCell ⟨w.heap.size, 1, none⟩ (.int .i64 0)).setCell ⟨w.heap.size, 2, none⟩ (.string ⟨#[]⟩)).setCell ⟨w.heap.size, 3, none⟩ (.int .i64 0)).setCell ⟨w.heap.size, 4, none⟩ (.int .i64 0)).alloc (.cells #[.int .i64 p0.k, .int .i64 p0.n, .string (tx p0.s), .int .i64 p0.x, .int .i64 p0.y, .int .i64 p1.k, .int .i64 p1.n, .string (tx p1.s), .int .i64 p1.x, .int .i64 p1.y, .int .i64 p2.k, .int .i64 p2.n, .string (tx p2.s), .int .i64 p2.x, .int .i64 p2.y] 106))
      change Doer _ _ _ _ _ _ _ _ _ (((((((w3.setCell ⟨w.heap.size, 0, none⟩ (.int .i64 0)).setCell ⟨w.heap.size, 1, none⟩ (.int .i64 0)).setCell ⟨w.heap.size, 2, none⟩ (.string ⟨#[]⟩)).setCell ⟨w.heap.size, 3, none⟩ (.int .i64 0)).setCell ⟨w.heap.size, 4, none⟩ (.int .i64 0)).alloc (.cells #[.int .i64 p0.k, .int .i64 p0.n, .string (tx p0.s), .int .i64 p0.x, .int .i64 p0.y, .int .i64 p1.k, .int .i64 p1.n, .string (tx p1.s), .int .i64 p1.x, .int .i64 p1.y, .int .i64 p2.k, .int .i64 p2.n, .string (tx p2.s), .int .i64 p2.x, .int .i64 p2.y] 106))) at hd9
      change Mv _ _ _ _ (((((((w3.setCell ⟨w.heap.size, 0, none⟩ (.int .i64 0)).setCell ⟨w.heap.size, 1, none⟩ (.int .i64 0)).setCell ⟨w.heap.size, 2, none⟩ (.string ⟨#[]⟩)).setCell ⟨w.heap.size, 3, none⟩ (.int .i64 0)).setCell ⟨w.heap.size, 4, none⟩ (.int .i64 0)).alloc (.cells #[.int .i64 p0.k, .int .i64 p0.n, .string (tx p0.s), .int .i64 p0.x, .int .i64 p0.y, .int .i64 p1.k, .int .i64 p1.n, .string (tx p1.s), .int .i64 p1.x, .int .i64 p1.y, .int .i64 p2.k, .int .i64 p2.n, .string (tx p2.s), .int .i64 p2.x, .int .i64 p2.y] 106))) at hm9
      change Box _ _ _ _ _ _ (((((((w3.setCell ⟨w.heap.size, 0, none⟩ (.int .i64 0)).setCell ⟨w.heap.size, 1, none⟩ (.int .i64 0)).setCell ⟨w.heap.size, 2, none⟩ (.string ⟨#[]⟩)).setCell ⟨w.heap.size, 3, none⟩ (.int .i64 0)).setCell ⟨w.heap.size, 4, none⟩ (.int .i64 0)).alloc (.cells #[.int .i64 p0.k, .int .i64 p0.n, .string (tx p0.s), .int .i64 p0.x, .int .i64 p0.y, .int .i64 p1.k, .int .i64 p1.n, .string (tx p1.s), .int .i64 p1.x, .int .i64 p1.y, .int .i64 p2.k, .int .i64 p2.n, .string (tx p2.s), .int .i64 p2.x, .int .i64 p2.y] 106))) at hxX
      generalize (((((((w3.setCell ⟨w.heap.size, 0, none⟩ (.int .i64 0)).setCell ⟨w.heap.size, 1, none⟩ (.int .i64 0)).setCell ⟨w.heap.size, 2, none⟩ (.string ⟨#[]⟩)).setCell ⟨w.heap.size, 3, none⟩ (.int .i64 0)).setCell ⟨w.heap.size, 4, none⟩ (.int .i64 0)).alloc (.cells #[.int .i64 p0.k, .int .i64 p0.n, .string (tx p0.s), .int .i64 p0.x, .int .i64 p0.y, .int .i64 p1.k, .int .i64 p1.n, .string (tx p1.s), .int .i64 p1.x, .int .i64 p1.y, .int .i64 p2.k, .int .i64 p2.n, .string (tx p2.s), .int .i64 p2.x, .int .i64 p2.y] 106))) = w9 at *
      have cX0 := hxX.blk.c 0 _ rfl
      have cX1 := hxX.blk.c 1 _ rfl
      have cX2 := hxX.blk.c 2 _ rfl
      have cX3 := hxX.blk.c 3 _ rfl
      have cX4 := hxX.blk.c 4 _ rfl
      refine bodyPost_ret (v := .tuple #[.agg #[.int .i64 0, .int .i64 0, .string ⟨#[]⟩, .int .i64 0, .int .i64 0], .int .i64 3]) (by simp [results, Tryz.results60, go_sem, cX0, cX1, cX2, cX3, cX4]) rfl ⟨vz, 3, S1, n1, ov1, rfl, by rw [HBD.out]; obtain ⟨rfl, rfl, rfl⟩ := HAA.out; exact Ans.er (by rw [bnd_ok HXX.out]; exact emit_big HBIG.out _ _) rfl (by decide), hd9, hm9⟩
    · have hbig2 : ¬ 64 < (tx p0.s).size := by omega
      have HBIG := Lib.hid hbig; clear hbig
      obtain ⟨Bp, cp, hov⟩ := own_slice HD3.out.out
      have hlb3 := HD3.out.blk.lt
      have e57 := HD3.out.blk.c 57 _ rfl
      have hmx := HGD.out.out
      change w3.cell? ⟨b, 57, none⟩ = some ov1 at e57
      subst hov
      by_cases hm : 64 ≤ S1.out.length
      · have hm2 : ((S1.out.length : Int) == 64) = true := by rw [beq_iff_eq]; omega
        have HMM := Lib.hid hm; clear hm
        have cX0 := HX3.out.blk.c 0 _ rfl; have zX0 := HX3.out.blk.f 0 _ rfl
        have cX1 := HX3.out.blk.c 1 _ rfl; have zX1 := HX3.out.blk.f 1 _ rfl
        have cX2 := HX3.out.blk.c 2 _ rfl; have zX2 := HX3.out.blk.f 2 _ rfl
        have cX3 := HX3.out.blk.c 3 _ rfl; have zX3 := HX3.out.blk.f 3 _ rfl
        have cX4 := HX3.out.blk.c 4 _ rfl; have zX4 := HX3.out.blk.f 4 _ rfl
        have hltX := HX3.out.blk.lt
        go_wp2_with (fail)
        have hd9 := ((HD3.out.puts HX3.out 0 [.int .i64 0, .int .i64 0, .string ⟨#[]⟩, .int .i64 0, .int .i64 0]).old (box1 _ (.cells #[.int .i64 p0.k, .int .i64 p0.n, .string (tx p0.s), .int .i64 p0.x, .int .i64 p0.y, .int .i64 p1.k, .int .i64 p1.n, .string (tx p1.s), .int .i64 p1.x, .int .i64 p1.y, .int .i64 p2.k, .int .i64 p2.n, .string (tx p2.s), .int .i64 p2.x, .int .i64 p2.y] 106)))
        have hm9 := ((Mv.puts (B := w.heap.size) HM3.out (by omega) 0 [.int .i64 0, .int .i64 0, .string ⟨#[]⟩, .int .i64 0, .int .i64 0]).old (box1 _ (.cells #[.int .i64 p0.k, .int .i64 p0.n, .string (tx p0.s), .int .i64 p0.x, .int .i64 p0.y, .int .i64 p1.k, .int .i64 p1.n, .string (tx p1.s), .int .i64 p1.x, .int .i64 p1.y, .int .i64 p2.k, .int .i64 p2.n, .string (tx p2.s), .int .i64 p2.x, .int .i64 p2.y] 106)))
        have hxX := ((Box.puts (HX3.out) [.int .i64 0, .int .i64 0, .string ⟨#[]⟩, .int .i64 0, .int .i64 0] rfl).old (box1 _ (.cells #[.int .i64 p0.k, .int .i64 p0.n, .string (tx p0.s), .int .i64 p0.x, .int .i64 p0.y, .int .i64 p1.k, .int .i64 p1.n, .string (tx p1.s), .int .i64 p1.x, .int .i64 p1.y, .int .i64 p2.k, .int .i64 p2.n, .string (tx p2.s), .int .i64 p2.x, .int .i64 p2.y] 106)))
        clear cX0 zX0 cX1 zX1 cX2 zX2 cX3 zX3 cX4 zX4 HD3 HM3 HX3 
        change bodyPost _ _ _ _ _ ((((((w3.setCell ⟨w.heap.size, 0, none⟩ (.int .i64 0)).setCell ⟨w.heap.size, 1, none⟩ (.int .i64 0)).setCell ⟨w.heap.size, 2, none⟩ (.string ⟨#[]⟩)).setCell ⟨w.heap.size, 3, none⟩ (.int .i64 0)).setCell ⟨w.heap.size, 4, none⟩ (.int .i64 0)).alloc (.cells #[.int .i64 p0.k, .int .i64 p0.n, .string (tx p0.s), .int .i64 p0.x, .int .i64 p0.y, .int .i64 p1.k, .int .i64 p1.n, .string (tx p1.s), .int .i64 p1.x, .int .i64 p1.y, .int .i64 p2.k, .int .i64 p2.n, .string (tx p2.s), .int .i64 p2.x, .int .i64 p2.y] 106))
        change Doer _ _ _ _ _ _ _ _ _ (((((((w3.setCell ⟨w.heap.size, 0, none⟩ (.int .i64 0)).setCell ⟨w.heap.size, 1, none⟩ (.int .i64 0)).setCell ⟨w.heap.size, 2, none⟩ (.string ⟨#[]⟩)).setCell ⟨w.heap.size, 3, none⟩ (.int .i64 0)).setCell ⟨w.heap.size, 4, none⟩ (.int .i64 0)).alloc (.cells #[.int .i64 p0.k, .int .i64 p0.n, .string (tx p0.s), .int .i64 p0.x, .int .i64 p0.y, .int .i64 p1.k, .int .i64 p1.n, .string (tx p1.s), .int .i64 p1.x, .int .i64 p1.y, .int .i64 p2.k, .int .i64 p2.n, .string (tx p2.s), .int .i64 p2.x, .int .i64 p2.y] 106))) at hd9
        change Mv _ _ _ _ (((((((w3.setCell ⟨w.heap.size, 0, none⟩ (.int .i64 0)).setCell ⟨w.heap.size, 1, none⟩ (.int .i64 0)).setCell ⟨w.heap.size, 2, none⟩ (.string ⟨#[]⟩)).setCell ⟨w.heap.size, 3, none⟩ (.int .i64 0)).setCell ⟨w.heap.size, 4, none⟩ (.int .i64 0)).alloc (.cells #[.int .i64 p0.k, .int .i64 p0.n, .string (tx p0.s), .int .i64 p0.x, .int .i64 p0.y, .int .i64 p1.k, .int .i64 p1.n, .string (tx p1.s), .int .i64 p1.x, .int .i64 p1.y, .int .i64 p2.k, .int .i64 p2.n, .string (tx p2.s), .int .i64 p2.x, .int .i64 p2.y] 106))) at hm9
        change Box _ _ _ _ _ _ (((((((w3.setCell ⟨w.heap.size, 0, none⟩ (.int .i64 0)).setCell ⟨w.heap.size, 1, none⟩ (.int .i64 0)).setCell ⟨w.heap.size, 2, none⟩ (.string ⟨#[]⟩)).setCell ⟨w.heap.size, 3, none⟩ (.int .i64 0)).setCell ⟨w.heap.size, 4, none⟩ (.int .i64 0)).alloc (.cells #[.int .i64 p0.k, .int .i64 p0.n, .string (tx p0.s), .int .i64 p0.x, .int .i64 p0.y, .int .i64 p1.k, .int .i64 p1.n, .string (tx p1.s), .int .i64 p1.x, .int .i64 p1.y, .int .i64 p2.k, .int .i64 p2.n, .string (tx p2.s), .int .i64 p2.x, .int .i64 p2.y] 106))) at hxX
        generalize (((((((w3.setCell ⟨w.heap.size, 0, none⟩ (.int .i64 0)).setCell ⟨w.heap.size, 1, none⟩ (.int .i64 0)).setCell ⟨w.heap.size, 2, none⟩ (.string ⟨#[]⟩)).setCell ⟨w.heap.size, 3, none⟩ (.int .i64 0)).setCell ⟨w.heap.size, 4, none⟩ (.int .i64 0)).alloc (.cells #[.int .i64 p0.k, .int .i64 p0.n, .string (tx p0.s), .int .i64 p0.x, .int .i64 p0.y, .int .i64 p1.k, .int .i64 p1.n, .string (tx p1.s), .int .i64 p1.x, .int .i64 p1.y, .int .i64 p2.k, .int .i64 p2.n, .string (tx p2.s), .int .i64 p2.x, .int .i64 p2.y] 106))) = w9 at *
        have cX0 := hxX.blk.c 0 _ rfl
        have cX1 := hxX.blk.c 1 _ rfl
        have cX2 := hxX.blk.c 2 _ rfl
        have cX3 := hxX.blk.c 3 _ rfl
        have cX4 := hxX.blk.c 4 _ rfl
        refine bodyPost_ret (v := .tuple #[.agg #[.int .i64 0, .int .i64 0, .string ⟨#[]⟩, .int .i64 0, .int .i64 0], .int .i64 22]) (by simp [results, Tryz.results60, go_sem, cX0, cX1, cX2, cX3, cX4]) rfl ⟨vz, 22, S1, n1, _, rfl, by rw [HBD.out]; obtain ⟨rfl, rfl, rfl⟩ := HAA.out; exact Ans.er (by rw [bnd_ok HXX.out]; exact emit_many HBIG.out HMM.out _) rfl (by decide), hd9, hm9⟩
      · have hm2 : ((S1.out.length : Int) == 64) = false := by rw [beq_eq_false_iff_ne]; omega
        have HMM := Lib.hid hm; clear hm
        obtain ⟨i0, hi0, hi1, hi2, hi3⟩ := info_parts infoP
        have HI0 := Lib.hid hi0; have HI1 := Lib.hid hi1; have HI2 := Lib.hid hi2; have HI3 := Lib.hid hi3
        clear hi0 hi1 hi2 hi3
        have HCL := Lib.hid (fun w1 => clone_any (tx p0.s) w1 (by omega))
        have HOV := Lib.hid (own_any p1.k p1.n p1.x p1.y (tx p1.s) (by omega))
        have HHP : Hid (Box w0 b E (.slice Bp S1.out.length cp) w3.heap.size [.int .i64 p0.k, .int .i64 p0.n, .string (tx p0.s), .int .i64 p0.x, .int .i64 p0.y, .int .i64 p1.k, .int .i64 p1.n, .string (tx p1.s), .int .i64 p1.x, .int .i64 p1.y, .int .i64 p2.k, .int .i64 p2.n, .string (tx p2.s), .int .i64 p2.x, .int .i64 p2.y] (w3.alloc (.cells #[.int .i64 p0.k, .int .i64 p0.n, .string (tx p0.s), .int .i64 p0.x, .int .i64 p0.y, .int .i64 p1.k, .int .i64 p1.n, .string (tx p1.s), .int .i64 p1.x, .int .i64 p1.y, .int .i64 p2.k, .int .i64 p2.n, .string (tx p2.s), .int .i64 p2.x, .int .i64 p2.y] 106))) := Box.made HD3.out (by omega) 106 [.int .i64 p0.k, .int .i64 p0.n, .string (tx p0.s), .int .i64 p0.x, .int .i64 p0.y, .int .i64 p1.k, .int .i64 p1.n, .string (tx p1.s), .int .i64 p1.x, .int .i64 p1.y, .int .i64 p2.k, .int .i64 p2.n, .string (tx p2.s), .int .i64 p2.x, .int .i64 p2.y]
        go_wp2_with (fail)
        go_region_law (first
          | (refine step_append_lies _ rfl (.tmp 39) (.tmp 48) 34 rfl w0.heap.size 58 i0 (.agg (pcl ([], vz)).toArray) 6 64 Tryz.underlying34 HI0.out HI1.out HI2.out HI3.out rfl (by decide) (.slice Bp S1.out.length cp) S1.out.length (pcells S1.out) (by simp [Act.eval]) (by exact (HD5.out.old (box1 w5 _)).out) ⟨w5.heap.size, 0, none⟩ 1 1 (pcl (p0.s, p1)) (by simp [Act.eval]) rfl (by exact pair_at _ _ _ _ rfl) (pcl_one _) (by decide) (by unfold maxLen; omega) (by omega) (by exact (HD5.out.old (box1 w5 _)).fro.size) (w5.heap.size + 1) (by simp) ?_
             intro g cap w6 hown' hgrow hgg hgl
             have HGG := Lib.hid ((HD5.out.old (box1 w5 (.cells #[.string (tx p0.s), .int .i64 p1.k, .int .i64 p1.n, .string (tx p1.s), .int .i64 p1.x, .int .i64 p1.y] 58))).grown (by omega) hown' hgrow (by rw [World.size_alloc]; exact hgg))
             obtain ⟨k57, z57⟩ := (HD5.out.old (box1 w5 (.cells #[.string (tx p0.s), .int .i64 p1.k, .int .i64 p1.n, .string (tx p1.s), .int .i64 p1.x, .int .i64 p1.y] 58))).cell_far hgrow
             clear hown' hgrow hgg hgl)
          | (go_simp
             go_at_call 64
             refine (HCL.out _).mono ?_
             rintro e w4 ⟨rfl, hb⟩
             have HD4 := Lib.hid (((HD3.out.old (box1 w3 (.cells #[.int .i64 p0.k, .int .i64 p0.n, .string (tx p0.s), .int .i64 p0.x, .int .i64 p0.y, .int .i64 p1.k, .int .i64 p1.n, .string (tx p1.s), .int .i64 p1.x, .int .i64 p1.y, .int .i64 p2.k, .int .i64 p2.n, .string (tx p2.s), .int .i64 p2.x, .int .i64 p2.y] 106))).old (below_drewN (Below.refl _ _) 1)).old hb); have HM4 := Lib.hid (((HM3.out.old (box1 w3 (.cells #[.int .i64 p0.k, .int .i64 p0.n, .string (tx p0.s), .int .i64 p0.x, .int .i64 p0.y, .int .i64 p1.k, .int .i64 p1.n, .string (tx p1.s), .int .i64 p1.x, .int .i64 p1.y, .int .i64 p2.k, .int .i64 p2.n, .string (tx p2.s), .int .i64 p2.x, .int .i64 p2.y] 106))).old (below_drewN (Below.refl _ _) 1)).old hb); have HX4 := Lib.hid (((HX3.out.old (box1 w3 (.cells #[.int .i64 p0.k, .int .i64 p0.n, .string (tx p0.s), .int .i64 p0.x, .int .i64 p0.y, .int .i64 p1.k, .int .i64 p1.n, .string (tx p1.s), .int .i64 p1.x, .int .i64 p1.y, .int .i64 p2.k, .int .i64 p2.n, .string (tx p2.s), .int .i64 p2.x, .int .i64 p2.y] 106))).old (below_drewN (Below.refl _ _) 1)).old hb); have HP4 := Lib.hid ((HHP.out.old (below_drewN (Below.refl _ _) 1)).old hb)
             have hlb4 := HD4.out.blk.lt
             have e574 : w4.cell? ⟨b, 57, none⟩ = some (.slice Bp S1.out.length cp) := HD4.out.blk.c 57 _ rfl
             have qP5 := HP4.out.blk.c 5 _ rfl; have qP6 := HP4.out.blk.c 6 _ rfl; have qP7 := HP4.out.blk.c 7 _ rfl; have qP8 := HP4.out.blk.c 8 _ rfl; have qP9 := HP4.out.blk.c 9 _ rfl
             clear hb)
          | (go_simp
             go_at_call 23
             refine (HOV.out _).mono ?_
             rintro e w5 ⟨rfl, hb⟩
             have HD5 := Lib.hid (HD4.out.old hb); have HM5 := Lib.hid (HM4.out.old hb); have HX5 := Lib.hid (HX4.out.old hb); have HP5 := Lib.hid (HP4.out.old hb)
             have hlb5 := HD5.out.blk.lt
             have e575 : w5.cell? ⟨b, 57, none⟩ = some (.slice Bp S1.out.length cp) := HD5.out.blk.c 57 _ rfl
             clear hb))
        all_goals
          obtain ⟨hd7, hm7⟩ := HGG.out
          have HD7 := Lib.hid hd7; have HM7 := Lib.hid ((HM5.out.old (box1 w5 (.cells #[.string (tx p0.s), .int .i64 p1.k, .int .i64 p1.n, .string (tx p1.s), .int .i64 p1.x, .int .i64 p1.y] 58))).trans hm7); have HX7 := Lib.hid ((HX5.out.old (box1 w5 (.cells #[.string (tx p0.s), .int .i64 p1.k, .int .i64 p1.n, .string (tx p1.s), .int .i64 p1.x, .int .i64 p1.y] 58))).mv hm7); have HP7 := Lib.hid ((HP5.out.old (box1 w5 (.cells #[.string (tx p0.s), .int .i64 p1.k, .int .i64 p1.n, .string (tx p1.s), .int .i64 p1.x, .int .i64 p1.y] 58))).mv hm7)
          clear hd7 hm7 HGG HD3 HM3 HX3 HHP HD4 HM4 HX4 HP4 HD5 HM5 HX5 HP5 e57 e574 e575 k57 z57 HCL HOV HI0 HI1 HI2 HI3 qP5 qP6 qP7 qP8 qP9
          generalize w6.setCell ⟨b, 57, none⟩ (.slice (some ⟨g, 0, none⟩) (S1.out.length + 1) cap) = w7 at *
          have qP5 := HP7.out.blk.c 5 _ rfl
          have qP6 := HP7.out.blk.c 6 _ rfl
          have qP7 := HP7.out.blk.c 7 _ rfl
          have qP8 := HP7.out.blk.c 8 _ rfl
          have qP9 := HP7.out.blk.c 9 _ rfl
          have cX0 := HX7.out.blk.c 0 _ rfl; have zX0 := HX7.out.blk.f 0 _ rfl
          have cX1 := HX7.out.blk.c 1 _ rfl; have zX1 := HX7.out.blk.f 1 _ rfl
          have cX2 := HX7.out.blk.c 2 _ rfl; have zX2 := HX7.out.blk.f 2 _ rfl
          have cX3 := HX7.out.blk.c 3 _ rfl; have zX3 := HX7.out.blk.f 3 _ rfl
          have cX4 := HX7.out.blk.c 4 _ rfl; have zX4 := HX7.out.blk.f 4 _ rfl
          have hltX := HX7.out.blk.lt
          go_wp2_with (fail)
          have hd9 := (HD7.out.puts HX7.out 0 [.int .i64 p1.k, .int .i64 p1.n, .string (tx p1.s), .int .i64 p1.x, .int .i64 p1.y])
          have hm9 := (Mv.puts (B := w.heap.size) HM7.out (by omega) 0 [.int .i64 p1.k, .int .i64 p1.n, .string (tx p1.s), .int .i64 p1.x, .int .i64 p1.y])
          have hxX := (Box.puts (HX7.out) [.int .i64 p1.k, .int .i64 p1.n, .string (tx p1.s), .int .i64 p1.x, .int .i64 p1.y] rfl)
          clear qP5 qP6 qP7 qP8 qP9 cX0 zX0 cX1 zX1 cX2 zX2 cX3 zX3 cX4 zX4 HD7 HM7 HX7 HP7 
          change bodyPost _ _ _ _ _ (((((w7.setCell ⟨w.heap.size, 0, none⟩ (.int .i64 p1.k)).setCell ⟨w.heap.size, 1, none⟩ (.int .i64 p1.n)).setCell ⟨w.heap.size, 2, none⟩ (.string (tx p1.s))).setCell ⟨w.heap.size, 3, none⟩ (.int .i64 p1.x)).setCell ⟨w.heap.size, 4, none⟩ (.int .i64 p1.y))
          change Doer _ _ _ _ _ _ _ _ _ ((((((w7.setCell ⟨w.heap.size, 0, none⟩ (.int .i64 p1.k)).setCell ⟨w.heap.size, 1, none⟩ (.int .i64 p1.n)).setCell ⟨w.heap.size, 2, none⟩ (.string (tx p1.s))).setCell ⟨w.heap.size, 3, none⟩ (.int .i64 p1.x)).setCell ⟨w.heap.size, 4, none⟩ (.int .i64 p1.y))) at hd9
          change Mv _ _ _ _ ((((((w7.setCell ⟨w.heap.size, 0, none⟩ (.int .i64 p1.k)).setCell ⟨w.heap.size, 1, none⟩ (.int .i64 p1.n)).setCell ⟨w.heap.size, 2, none⟩ (.string (tx p1.s))).setCell ⟨w.heap.size, 3, none⟩ (.int .i64 p1.x)).setCell ⟨w.heap.size, 4, none⟩ (.int .i64 p1.y))) at hm9
          change Box _ _ _ _ _ _ ((((((w7.setCell ⟨w.heap.size, 0, none⟩ (.int .i64 p1.k)).setCell ⟨w.heap.size, 1, none⟩ (.int .i64 p1.n)).setCell ⟨w.heap.size, 2, none⟩ (.string (tx p1.s))).setCell ⟨w.heap.size, 3, none⟩ (.int .i64 p1.x)).setCell ⟨w.heap.size, 4, none⟩ (.int .i64 p1.y))) at hxX
          generalize ((((((w7.setCell ⟨w.heap.size, 0, none⟩ (.int .i64 p1.k)).setCell ⟨w.heap.size, 1, none⟩ (.int .i64 p1.n)).setCell ⟨w.heap.size, 2, none⟩ (.string (tx p1.s))).setCell ⟨w.heap.size, 3, none⟩ (.int .i64 p1.x)).setCell ⟨w.heap.size, 4, none⟩ (.int .i64 p1.y))) = w9 at *
          have cX0 := hxX.blk.c 0 _ rfl
          have cX1 := hxX.blk.c 1 _ rfl
          have cX2 := hxX.blk.c 2 _ rfl
          have cX3 := hxX.blk.c 3 _ rfl
          have cX4 := hxX.blk.c 4 _ rfl
          refine bodyPost_ret (v := .tuple #[.agg #[.int .i64 p1.k, .int .i64 p1.n, .string (tx p1.s), .int .i64 p1.x, .int .i64 p1.y], .int .i64 0]) (by simp [results, Tryz.results60, go_sem, cX0, cX1, cX2, cX3, cX4]) rfl ⟨p1, 0, { S1 with out := S1.out ++ [(p0.s, p1)] }, n1, _, rfl, by rw [HBD.out]; obtain ⟨rfl, rfl, rfl⟩ := HAA.out; exact Ans.ok (by rw [bnd_ok HXX.out]; exact emit_ok HBIG.out HMM.out _) rfl, hd9, hm9⟩
end Go.Proofs.YtcdjincaedpodaaGreatDoor.Ev
/-
  For each node, the place behind the expression that begins there.
-/
namespace Go.Proofs.YtcdjincaedpodaaGreatDoor.Ev
open Go.ChangeShapes Go.WideShapes Go.ChangeAt Go.RowKit Go.Proofs.YtcdjincaedpodaaGreatDoor.Ov Go.Proofs.YtcdjincaedpodaaGreatDoor.Va Go.Proofs.YtcdjincaedpodaaGreatDoor.Ex

theorem infoI : (Tryz.prog.info? 3).map (fun i => (i.zero, i.size, i.bytes)) = some (some (.int .i64 0), 1, 8) := by kernel_rfl
/-- The place behind, for each node from a place on. -/
def bhv (l : List No) (k : Nat) : Value := .int .i64 ((l.length - (nx (l.drop k)).length : Nat) : Int)
def BehL (w : World) (l : List No) (wr : World) (k : Nat) : Prop := ∃ xs : List Value, xs.length = l.length ∧ Blk wr w.heap.size xs ∧ (∀ i, k ≤ i → i < l.length → xs[i]? = some (bhv l i)) ∧ Below w.heap.size w wr
theorem behL_start (w : World) (l : List No) (ty : TypeId) : BehL w l (w.alloc (.cells (madeCells #[.int .i64 0] l.length) ty)) l.length := by
  refine ⟨List.replicate l.length (.int .i64 0), List.length_replicate, ?_, fun i h1 h2 => absurd h2 (by omega), box1 w _⟩
  have h := Blk.made w ty (madeCells #[.int .i64 0] l.length).toList rfl
  rw [Array.toArray_toList, toList_madeCells_one] at h
  exact h
theorem ex_at {l : List No} (h : Rt l = true) {k : Nat} (hk : k < l.length) : ∃ r, ex 25 (l.drop k) = some r := ex_each 25 l [] (Rt_in h).2 k (by simpa using hk)
set_option maxRecDepth 100000 in
set_option maxHeartbeats 2000000 in
theorem behinds_any (l : List No) (A : Option Addr) (c : Nat) (w : World) (hn : Nds w A l) (hk : KN w) (hr : Rt l = true) : Calls Tryz.prog 19 #[.slice A l.length c] w (fun e w' => e = .returned (.slice (some ⟨w.heap.size, 0, none⟩) l.length l.length) ∧ Below w.heap.size w w' ∧ w.heap.size < w'.heap.size ∧ ∀ k, k < l.length → w'.cell? ⟨w.heap.size, k, none⟩ = some (bhv l k)) := by
  have hl := (Rt_in hr).1
  have hmk := run_make_row' (P := Tryz.prog) 62 3 (.int .i64 0) 8 Tryz.underlying62 infoI rfl .i64 .i64 l.length (by omega) (by omega)
  have HN := Lib.hid hn; have HK := Lib.hid hk; have HR := Lib.hid hr
  have HPA := Lib.hid (fun o w1 => Go.Proofs.YtcdjincaedpodaaGreatDoor.Ex.parts_any o w1)
  clear hn hk hr
  go_enter Tryz.func19, Tryz.ntmps19
  go_wp2_with (fail)
  clear hmk
  go_loopw [4] (fun i wr => ∃ k : Nat, k ≤ l.length ∧ i = .int .i64 ((k : Int) - 1) ∧ BehL w l wr k) (fun i _ => (intOf i + 1).toNat)
  case atStart => exact ⟨l.length, Nat.le_refl _, rfl, behL_start w l _⟩
  case round =>
    obtain ⟨k, hkl, rfl, hb⟩ := hrel
    have HB := Lib.hid hb; clear hb
    by_cases h0 : k = 0
    · subst h0
      go_wp2_with (fail)
      go_ret
      obtain ⟨xs, h1, h2, h3, h4⟩ := HB.out
      exact ⟨rfl, h4, h2.lt, fun i hi => h2.c i _ (h3 i (Nat.zero_le _) hi)⟩
    · obtain ⟨j, rfl⟩ : ∃ j, k = j + 1 := ⟨k - 1, by omega⟩
      have hjl : j < l.length := by omega
      rw [show ((j + 1 : Nat) : Int) - 1 = (j : Int) by omega]
      obtain ⟨r, hx⟩ := ex_at HR.out hjl
      rw [drop_nd hjl, ex_cons] at hx
      have hrn : rn (nd l j) = true := by
        rcases Bool.eq_false_or_eq_true (rn (nd l j)) with h | h
        · exact h
        · rw [if_neg (by rw [h]; decide)] at hx; cases hx
      rw [if_pos hrn] at hx
      obtain ⟨xs, x1, x2, x3, x4⟩ := HB.out
      obtain ⟨B, O, rfl⟩ := HN.out.shape (by omega)
      have hnw := HN.out.next x4
      have e0 := hnw.cell hjl 0 _ rfl
      rw [Nat.add_zero] at e0
      have c1 := x2.c j _ (List.getElem?_eq_getElem (by omega))
      have f1 := x2.f j _ (List.getElem?_eq_getElem (by omega))
      have hBl := HN.out.lt (by omega)
      have hBne : B ≠ w.heap.size := by omega
      have HX := Lib.hid hx
      have HPO := Lib.hid (HPA.out (nd l j).o)
      unfold ptv at HPO
      have hp3 := pa_le (nd l j).o
      have HXN : Hid (nx (l.drop j) = r) := by
        show _ = _
        refine nx_of (d := 25) ?_ (Nat.le_refl _)
        rw [drop_nd hjl, ex_cons, if_pos hrn]; exact hx
      have X2 := Lib.hid x2; have X3 := Lib.hid x3; have X4 := Lib.hid x4
      generalize (nd l j).o = o at *
      have hwrap : ((j : Int) + 1) ≤ 401 := by omega
      clear hnw hx hrn x2 x3 x4 HB
      go_wp2_with (fail)
      refine (HPO.out _ (HK.out.next (X4.out.setCell (Nat.le_refl _) _))).mono ?_
      rintro e w2 ⟨rfl, hb⟩
      have x2 := (X2.out.set j (.int .i64 ((j : Int) + 1))).next hb
      have x4 := Below.next (X4.out.setCell (Nat.le_refl _) (.int .i64 ((j : Int) + 1))) hb
      have HXS : Hid (∀ i, j + 1 ≤ i → i < l.length → (xs.set j (.int .i64 ((j : Int) + 1)))[i]? = some (bhv l i)) := fun i h1 h2 => by
        rw [List.getElem?_set_ne (by omega)]; exact X3.out i h1 h2
      have HXJ : Hid ((xs.set j (.int .i64 ((j : Int) + 1)))[j]? = some (.int .i64 ((j : Int) + 1))) := List.getElem?_set_self (by omega)
      have hxl : (xs.set j (.int .i64 ((j : Int) + 1))).length = l.length := by rw [List.length_set]; exact x1
      have X22 := Lib.hid x2; have X42 := Lib.hid x4; have HXL := Lib.hid hxl
      clear hb x2 x4 X2 X3 X4 c1 f1 e0 hxl
      generalize xs.set j (.int .i64 ((j : Int) + 1)) = xs2 at *
      clear x1 xs
      go_wp2_with (fail)
      go_loopw [34] (fun i wr => ∃ (p : Nat) (rp : List No) (xs : List Value), p ≤ pa o ∧ i = .int .i64 (p : Int) ∧ it (ex 24) (pa o - p) rp = some r ∧ rp.length ≤ l.length ∧ rp = l.drop (l.length - rp.length) ∧ j < l.length - rp.length ∧ xs.length = l.length ∧ Blk wr w.heap.size xs ∧ (∀ i, j + 1 ≤ i → i < l.length → xs[i]? = some (bhv l i)) ∧ xs[j]? = some (.int .i64 ((l.length - rp.length : Nat) : Int)) ∧ Below w.heap.size w wr) (fun i _ => pa o - (intOf i).toNat)
      case atStart =>
        have hdl : (l.drop (j + 1)).length = l.length - (j + 1) := List.length_drop
        refine ⟨0, l.drop (j + 1), xs2, Nat.zero_le _, rfl, HX.out, by omega, by rw [hdl, show l.length - (l.length - (j + 1)) = j + 1 by omega], by omega, HXL.out, X22.out, HXS.out, ?_, X42.out⟩
        rw [hdl, show l.length - (l.length - (j + 1)) = j + 1 by omega]; exact HXJ.out
      case round =>
        clear HXS HXJ X22 X42 HXL HX
        obtain ⟨p, rp, xs, hp, rfl, hi, hr1, hr2, hr3, y1, y2, y3, y4, y5⟩ := hrel
        by_cases hlt : p < pa o
        · rw [show pa o - p = (pa o - (p + 1)) + 1 by omega, it_succ] at hi
          obtain ⟨r1, e1, e2⟩ := Option.bind_eq_some_iff.1 hi
          obtain ⟨y, hy⟩ : ∃ y, l.length - rp.length = y := ⟨_, rfl⟩
          rw [hy] at hr2 hr3 y4
          rw [hr2] at e1
          obtain ⟨g1, g2, g3⟩ := ex_drop_len e1 (by omega)
          have c1 := y2.c j _ y4
          have f1 := y2.f j _ y4
          have c2 := y2.c y _ (y3 y (by omega) (by omega))
          unfold bhv at c2
          rw [nx_of e1 (by omega)] at c2
          obtain ⟨z, hz⟩ : ∃ z, l.length - r1.length = z := ⟨_, rfl⟩
          rw [hz] at c2 g1 g2
          have hyl : y < l.length := by omega
          have E2 := Lib.hid e2; have Y2 := Lib.hid y2; have Y3 := Lib.hid y3; have Y5 := Lib.hid y5; have HG1 := Lib.hid g1; have HZ := Lib.hid hz
          clear hi e1 e2 hr2 y2 y3 y4 y5 g1 hy hz hr1
          go_wp2_with (fail)
          go_roundw
          case rel =>
            refine ⟨p + 1, r1, xs.set j (.int .i64 (z : Int)), by omega, by go_num, E2.out, g3, by rw [HZ.out]; exact HG1.out, by rw [HZ.out]; omega, by rw [List.length_set]; exact y1, Y2.out.set j _, fun i h1 h2 => ?_, ?_, Y5.out.setCell (Nat.le_refl _) _⟩
            · rw [List.getElem?_set_ne (by omega)]; exact Y3.out i h1 h2
            · rw [HZ.out]; exact List.getElem?_set_self (by omega)
          case measure => simp [intOf]; omega
        · obtain rfl : p = pa o := by omega
          rw [Nat.sub_self, it_zero] at hi
          obtain rfl := Option.some.inj hi
          have Y2 := Lib.hid y2; have Y3 := Lib.hid y3; have Y5 := Lib.hid y5; have Y4 := Lib.hid y4
          clear hi hr1 hr2 y2 y3 y5 y4
          go_wp2_with (fail)
          go_roundw
          case rel =>
            refine ⟨j, by omega, by go_num, xs, y1, Y2.out, fun i h1 h2 => ?_, Y5.out⟩
            by_cases h : i = j
            · subst h
              unfold bhv
              rw [HXN.out]; exact Y4.out
            · exact Y3.out i (by omega) h2
          case measure => simp [intOf]
end Go.Proofs.YtcdjincaedpodaaGreatDoor.Ev
/-
  Doing, at every depth; the kinds' deeds; whether what stands for names is right (written by gen_evall.py).
-/
namespace Go.Proofs.YtcdjincaedpodaaGreatDoor.Ev
open Go.ChangeShapes Go.WideShapes Go.ChangeAt Go.RowKit Go.Proofs.YtcdjincaedpodaaGreatDoor.Ov Go.Proofs.YtcdjincaedpodaaGreatDoor.Va Go.Proofs.YtcdjincaedpodaaGreatDoor.Ga Go.Proofs.YtcdjincaedpodaaGreatDoor.Ex

theorem deeds_any {d : Nat} (HD : DoC (ev d) d) : ∀ o : Nat, o < 30 → DeedC d o dl[o]!
  | 0, _ => deed_value
  | 1, _ => deed_name
  | 2, _ => deed_add HD
  | 3, _ => deed_sub HD
  | 4, _ => deed_mul HD
  | 5, _ => deed_div HD
  | 6, _ => deed_mod HD
  | 7, _ => deed_neg HD
  | 8, _ => deed_less HD
  | 9, _ => deed_same HD
  | 10, _ => deed_not HD
  | 11, _ => deed_choose HD
  | 12, _ => deed_max HD
  | 13, _ => deed_min HD
  | 14, _ => deed_cat HD
  | 15, _ => deed_size HD
  | 16, _ => deed_cut HD
  | 17, _ => deed_word HD
  | 18, _ => deed_words HD
  | 19, _ => deed_num HD
  | 20, _ => deed_text HD
  | 21, _ => deed_spot HD
  | 22, _ => deed_re HD
  | 23, _ => deed_im HD
  | 24, _ => deed_norm HD
  | 25, _ => deed_conj HD
  | 26, _ => deed_emit HD
  | 27, _ => deed_then HD
  | 28, _ => deed_each HD
  | 29, _ => deed_let HD
  | n + 30, h => absurd h (by omega)
theorem do_any : ∀ d : Nat, DoC (ev d) d
  | 0 => do_none
  | d + 1 => do_step (deeds_any (do_any d))
/-- A whole value into the block that was made last. -/
theorem wpList_store_new {P : Program} {ops : Array Oper} {rest : List Oper} {op : Oper} {a : Act} {Q : Exit → Act → World → Prop} (hgd : op.guard = none) (ty : TypeId) (x y : Operand) (ho : op.op = .store ty x y) (w : World) (c c' : Array Value)
    (hx : a.eval x = .pointer (some ⟨w.heap.size, 0, none⟩)) (hy : a.eval y = .agg c') (hi : (P.info? ty).map (·.size) = some c'.size) (hs : c.size = c'.size) (h1 : c'.all (·.oneCell') = true)
    (h : wpList P ops Q rest (a.put op.dst undef) (w.alloc (.cells c' ty))) : wpList P ops Q (op :: rest) a (w.alloc (.cells c ty)) :=
  wpList_plain hgd fun K hK => by
    unfold Oper.wp execOp
    simp only [ho, hx, hy, Instr.storeAt, Instr.sureAddr, Sem.run_bind, Sem.run_pure, Result.andThen_ok, run_storeVar_new w ty c c' hi hs h1]
    exact hK _ _ h
set_option maxRecDepth 100000 in
set_option maxHeartbeats 2000000 in
theorem kinds_any (b : Nat) (w : World) : Calls Tryz.prog 21 #[.pointer (some ⟨b, 0, none⟩)] w (Gives (.agg #[.func (.func 34) #[.pointer (some ⟨b, 0, none⟩)] #[], .func (.func 35) #[.pointer (some ⟨b, 0, none⟩)] #[], .func (.func 36) #[.pointer (some ⟨b, 0, none⟩)] #[], .func (.func 37) #[.pointer (some ⟨b, 0, none⟩)] #[], .func (.func 38) #[.pointer (some ⟨b, 0, none⟩)] #[], .func (.func 39) #[.pointer (some ⟨b, 0, none⟩)] #[], .func (.func 40) #[.pointer (some ⟨b, 0, none⟩)] #[], .func (.func 41) #[.pointer (some ⟨b, 0, none⟩)] #[], .func (.func 42) #[.pointer (some ⟨b, 0, none⟩)] #[], .func (.func 43) #[.pointer (some ⟨b, 0, none⟩)] #[], .func (.func 44) #[.pointer (some ⟨b, 0, none⟩)] #[], .func (.func 45) #[.pointer (some ⟨b, 0, none⟩)] #[], .func (.func 46) #[.pointer (some ⟨b, 0, none⟩)] #[], .func (.func 47) #[.pointer (some ⟨b, 0, none⟩)] #[], .func (.func 48) #[.pointer (some ⟨b, 0, none⟩)] #[], .func (.func 49) #[.pointer (some ⟨b, 0, none⟩)] #[], .func (.func 50) #[.pointer (some ⟨b, 0, none⟩)] #[], .func (.func 51) #[.pointer (some ⟨b, 0, none⟩)] #[], .func (.func 52) #[.pointer (some ⟨b, 0, none⟩)] #[], .func (.func 53) #[.pointer (some ⟨b, 0, none⟩)] #[], .func (.func 54) #[.pointer (some ⟨b, 0, none⟩)] #[], .func (.func 55) #[.pointer (some ⟨b, 0, none⟩)] #[], .func (.func 56) #[.pointer (some ⟨b, 0, none⟩)] #[], .func (.func 57) #[.pointer (some ⟨b, 0, none⟩)] #[], .func (.func 58) #[.pointer (some ⟨b, 0, none⟩)] #[], .func (.func 59) #[.pointer (some ⟨b, 0, none⟩)] #[], .func (.func 60) #[.pointer (some ⟨b, 0, none⟩)] #[], .func (.func 61) #[.pointer (some ⟨b, 0, none⟩)] #[], .func (.func 62) #[.pointer (some ⟨b, 0, none⟩)] #[], .func (.func 63) #[.pointer (some ⟨b, 0, none⟩)] #[]]) w) := by
  have hmf : ∀ (fn : Fn) (first cap : Array Value) (w : World), (Instr.makeFunc fn first cap).run Tryz.prog w = .ok (.func fn first cap) w := fun _ _ _ _ => rfl
  go_enter Tryz.func21, Tryz.ntmps21
  go_wp2_with (refine wpList_store_new rfl 68 (.tmp 2) (.tmp 63) rfl w _ #[.func (.func 34) #[.pointer (some ⟨b, 0, none⟩)] #[], .func (.func 35) #[.pointer (some ⟨b, 0, none⟩)] #[], .func (.func 36) #[.pointer (some ⟨b, 0, none⟩)] #[], .func (.func 37) #[.pointer (some ⟨b, 0, none⟩)] #[], .func (.func 38) #[.pointer (some ⟨b, 0, none⟩)] #[], .func (.func 39) #[.pointer (some ⟨b, 0, none⟩)] #[], .func (.func 40) #[.pointer (some ⟨b, 0, none⟩)] #[], .func (.func 41) #[.pointer (some ⟨b, 0, none⟩)] #[], .func (.func 42) #[.pointer (some ⟨b, 0, none⟩)] #[], .func (.func 43) #[.pointer (some ⟨b, 0, none⟩)] #[], .func (.func 44) #[.pointer (some ⟨b, 0, none⟩)] #[], .func (.func 45) #[.pointer (some ⟨b, 0, none⟩)] #[], .func (.func 46) #[.pointer (some ⟨b, 0, none⟩)] #[], .func (.func 47) #[.pointer (some ⟨b, 0, none⟩)] #[], .func (.func 48) #[.pointer (some ⟨b, 0, none⟩)] #[], .func (.func 49) #[.pointer (some ⟨b, 0, none⟩)] #[], .func (.func 50) #[.pointer (some ⟨b, 0, none⟩)] #[], .func (.func 51) #[.pointer (some ⟨b, 0, none⟩)] #[], .func (.func 52) #[.pointer (some ⟨b, 0, none⟩)] #[], .func (.func 53) #[.pointer (some ⟨b, 0, none⟩)] #[], .func (.func 54) #[.pointer (some ⟨b, 0, none⟩)] #[], .func (.func 55) #[.pointer (some ⟨b, 0, none⟩)] #[], .func (.func 56) #[.pointer (some ⟨b, 0, none⟩)] #[], .func (.func 57) #[.pointer (some ⟨b, 0, none⟩)] #[], .func (.func 58) #[.pointer (some ⟨b, 0, none⟩)] #[], .func (.func 59) #[.pointer (some ⟨b, 0, none⟩)] #[], .func (.func 60) #[.pointer (some ⟨b, 0, none⟩)] #[], .func (.func 61) #[.pointer (some ⟨b, 0, none⟩)] #[], .func (.func 62) #[.pointer (some ⟨b, 0, none⟩)] #[], .func (.func 63) #[.pointer (some ⟨b, 0, none⟩)] #[]] (by simp [Act.eval]) (by simp [Act.eval]) (by kernel_rfl) rfl (by simp [Value.oneCell']) ?_)
  go_wp2_with (fail)
  refine bodyPost_ret (results_cell_row Tryz.results21 _ _ w.heap.size _ _ _ _ rfl (heap_alloc_last w _) Tryz.underlying68 rfl (by kernel_rfl)) rfl ⟨rfl, ?_⟩
  exact box1 w _
/-- What stands for names, as a value. -/
def ecl (k : List UInt8) (v a : Va) : List Value := .string (tx k) :: (vcl v ++ vcl a)
def rEnv (k : List UInt8) (v a : Va) : Bool := decide (k.length ≤ 4096) && rt v && rt a
theorem right_va (v : Va) (w : World) : Calls Tryz.prog 32 #[.agg #[.int .i64 v.k, .int .i64 v.n, .string (tx v.s), .int .i64 v.x, .int .i64 v.y]] w (Gives (.bool (rt v)) w) := by
  have h := right_val v.k v.n v.x v.y (tx v.s) w
  rw [tx_list] at h
  exact h
set_option maxRecDepth 100000 in
set_option maxHeartbeats 2000000 in
theorem renv_any (k : List UInt8) (v a : Va) (w : World) : Calls Tryz.prog 18 #[.agg #[.string (tx k), .int .i64 v.k, .int .i64 v.n, .string (tx v.s), .int .i64 v.x, .int .i64 v.y, .int .i64 a.k, .int .i64 a.n, .string (tx a.s), .int .i64 a.x, .int .i64 a.y]] w (Gives (.bool (rEnv k v a)) w) := by
  have hsz := tx_size k
  have h1 : Blk (w.alloc (.cells #[.string (tx k), .int .i64 v.k, .int .i64 v.n, .string (tx v.s), .int .i64 v.x, .int .i64 v.y, .int .i64 a.k, .int .i64 a.n, .string (tx a.s), .int .i64 a.x, .int .i64 a.y] 28)) w.heap.size (ecl k v a) := Blk.made w 28 (ecl k v a) rfl
  have hb1 := box1 w (.cells #[.string (tx k), .int .i64 v.k, .int .i64 v.n, .string (tx v.s), .int .i64 v.x, .int .i64 v.y, .int .i64 a.k, .int .i64 a.n, .string (tx a.s), .int .i64 a.x, .int .i64 a.y] 28)
  have H1 := Lib.hid h1; have HB1 := Lib.hid hb1; have HV := Lib.hid (right_va v); have HA := Lib.hid (right_va a)
  clear h1 hb1
  by_cases hk : (tx k).size ≤ 4096
  · have HE : Hid (rEnv k v a = (rt v && rt a)) := by show _ = _; unfold rEnv; rw [show decide (k.length ≤ 4096) = true from decide_eq_true (by omega)]; rfl
    rcases Bool.eq_false_or_eq_true (rt v) with hv | hv
    · rw [hv] at HV HE
      go_enter Tryz.func18, Tryz.ntmps18
      go_wp2_with (fail)
      refine (HV.out _).mono ?_
      rintro e w2 ⟨rfl, hb⟩
      have H2 := Lib.hid (H1.out.next hb); have HB2 := Lib.hid (Below.next HB1.out hb)
      have c6 := H2.out.c 6 _ rfl; have c7 := H2.out.c 7 _ rfl; have c8 := H2.out.c 8 _ rfl; have c9 := H2.out.c 9 _ rfl; have c10 := H2.out.c 10 _ rfl
      clear hb H1 HB1
      go_wp2_with (fail)
      refine (HA.out _).mono ?_
      rintro e w3 ⟨rfl, hb⟩
      have HB3 := Lib.hid (Below.next HB2.out hb)
      clear hb H2 HB2 c6 c7 c8 c9 c10
      go_wp2_with (fail)
      go_ret
      exact ⟨by rw [HE.out]; simp, HB3.out⟩
    · rw [hv] at HV HE
      go_enter Tryz.func18, Tryz.ntmps18
      go_wp2_with (fail)
      refine (HV.out _).mono ?_
      rintro e w2 ⟨rfl, hb⟩
      have HB2 := Lib.hid (Below.next HB1.out hb)
      clear hb H1 HB1
      go_wp2_with (fail)
      go_ret
      exact ⟨by rw [HE.out]; simp, HB2.out⟩
  · have HE : Hid (rEnv k v a = false) := by show _ = _; unfold rEnv; rw [show decide (k.length ≤ 4096) = false from decide_eq_false (by omega)]; rfl
    go_enter Tryz.func18, Tryz.ntmps18
    go_wp2_with (fail)
    go_ret
    exact ⟨by rw [HE.out]; rfl, HB1.out⟩
end Go.Proofs.YtcdjincaedpodaaGreatDoor.Ev
/-
  Running an expression.
-/
namespace Go.Proofs.YtcdjincaedpodaaGreatDoor.Ev
open Go.ChangeShapes Go.WideShapes Go.ChangeAt Go.RowKit Go.Proofs.YtcdjincaedpodaaGreatDoor.Ov Go.Proofs.YtcdjincaedpodaaGreatDoor.Va Go.Proofs.YtcdjincaedpodaaGreatDoor.Ga Go.Proofs.YtcdjincaedpodaaGreatDoor.Ex

/-- What Run answers. -/
def S0 (k : List UInt8) (v a : Va) : St := ⟨k, v, a, 0, vz, []⟩
def rnX (l : List No) (k : List UInt8) (v a : Va) (n : Int) : Rs Va := if Rt l = true ∧ rEnv k v a = true ∧ 0 ≤ n ∧ n ≤ 100000 then ev 25 l (S0 k v a) n.toNat else .er 1
def rz7 : List Value := [.int .i64 0, .int .i64 0, .string ⟨#[]⟩, .int .i64 0, .int .i64 0, .slice none 0 0, .int .i64 0]
def RunQ (X : Rs Va) (w : World) (e : Ending) (w' : World) : Prop := Below w.heap.size w w' ∧ match X with
  | .er x => x ≠ 0 ∧ e = .returned (.tuple #[.agg #[.int .i64 0, .int .i64 0, .string ⟨#[]⟩, .int .i64 0, .int .i64 0, .slice none 0 0, .int .i64 0], .int .i64 x])
  | .ok v S n => ∃ A c, w'.ownsRow w.heap.size 58 6 (.slice A S.out.length c) S.out.length (pcells S.out) ∧
      e = .returned (.tuple #[.agg #[.int .i64 v.k, .int .i64 v.n, .string (tx v.s), .int .i64 v.x, .int .i64 v.y, .slice A S.out.length c, .int .i64 (n : Int)], .int .i64 0])
/-- A doer's cells, the deeds not laid yet. -/
def dcz (A : Option Addr) (c E len : Nat) (S : St) (n : Nat) (ov : Value) : List Value :=
  .slice A len c :: .slice (some ⟨E, 0, none⟩) len len :: (List.replicate 30 .nilFunc ++ (stc S ++ [ov, .int .i64 (n : Int)]))
theorem dcz_dcs (A : Option Addr) (c E b len : Nat) (S : St) (n : Nat) (ov : Value) : (dcz A c E len S n ov).take 2 ++ dcl b ++ (dcz A c E len S n ov).drop (2 + (dcl b).length) = dcs A c E b len S n ov := rfl
theorem Blk.there {w : World} {b : Nat} {xs : List Value} (h : Blk w b xs) {o n : Nat} (hl : o + n ≤ xs.length) : w.there b o n := fun j hj => by
  have e : xs[o + j]? = some xs[o + j] := List.getElem?_eq_getElem (by omega)
  exact ⟨by rw [h.c _ _ e]; rfl, h.f _ _ e⟩
theorem setCells_putL (B : Nat) : ∀ (vs : List Value) (o : Nat) (w : World), w.setCells B o vs = putL w B o vs
  | [], _, _ => rfl
  | v :: vs, o, w => by show (w.setCell ⟨B, o, none⟩ v).setCells B (o + 1) vs = _; rw [setCells_putL B vs (o + 1)]; rfl
theorem blk_puts {w : World} {B : Nat} : ∀ (vs : List Value) (o : Nat) {xs : List Value}, Blk w B xs → o + vs.length ≤ xs.length → Blk (putL w B o vs) B (xs.take o ++ vs ++ xs.drop (o + vs.length)) := by
  intro vs
  induction vs generalizing w with
  | nil => intro o xs h _; simpa [putL] using h
  | cons v vs ih =>
    intro o xs h hl
    rw [List.length_cons] at hl
    have := ih (o + 1) (h.set o v) (by rw [List.length_set]; omega)
    have e : (xs.set o v).take (o + 1) ++ vs ++ (xs.set o v).drop (o + 1 + vs.length) = xs.take o ++ v :: vs ++ xs.drop (o + (v :: vs).length) := by
      rw [List.take_set, List.drop_set, if_pos (by omega), List.length_cons, show o + 1 + vs.length = o + (vs.length + 1) by omega]
      congr 1
      rw [List.take_succ_eq_append_getElem (show o < xs.length by omega), List.set_append_right _ _ (by rw [List.length_take]; omega), List.length_take, show o - min o xs.length = 0 by omega]
      simp
    rw [e] at this
    exact this
theorem below_puts {w0 w : World} {lo B : Nat} : ∀ (vs : List Value) (o : Nat), Below lo w0 w → lo ≤ B → Below lo w0 (putL w B o vs) := by
  intro vs
  induction vs generalizing w with
  | nil => intro o h _; exact h
  | cons v vs ih => intro o h hB; exact ih (o + 1) (h.setCell hB _) hB
theorem blk_puts_other {w : World} {B C : Nat} {xs : List Value} (hc : C ≠ B) : ∀ (vs : List Value) (o : Nat), Blk w B xs → Blk (putL w C o vs) B xs := by
  intro vs
  induction vs generalizing w with
  | nil => intro o h; exact h
  | cons v vs ih => intro o h; exact ih (o + 1) (h.put hc o v)
theorem cell_puts_other {w : World} {B C i : Nat} (hc : C ≠ B) (vs : List Value) : ∀ (o : Nat), (putL w C o vs).cell? ⟨B, i, none⟩ = w.cell? ⟨B, i, none⟩ := by
  induction vs generalizing w with
  | nil => intro o; rfl
  | cons v vs ih => intro o; exact (ih (o + 1)).trans (World.cell?_setCell_other _ _ _ _ (fun e => hc (by injection e)))
theorem size_puts {w : World} {C : Nat} (vs : List Value) : ∀ (o : Nat), (putL w C o vs).heap.size = w.heap.size := by
  induction vs generalizing w with
  | nil => intro o; rfl
  | cons v vs ih => intro o; rw [putL, ih]; simp
set_option maxRecDepth 100000 in
set_option maxHeartbeats 400000 in
theorem dcz_lit (A : Option Addr) (c E : Nat) (l : List No) (k : List UInt8) (v a : Va) (m : Nat) : dcz A c E l.length (S0 k v a) m (.slice none 0 0) = [.slice A l.length c, .slice (some ⟨E, 0, none⟩) l.length l.length, .nilFunc, .nilFunc, .nilFunc, .nilFunc, .nilFunc, .nilFunc, .nilFunc, .nilFunc, .nilFunc, .nilFunc, .nilFunc, .nilFunc, .nilFunc, .nilFunc, .nilFunc, .nilFunc, .nilFunc, .nilFunc, .nilFunc, .nilFunc, .nilFunc, .nilFunc, .nilFunc, .nilFunc, .nilFunc, .nilFunc, .nilFunc, .nilFunc, .nilFunc, .nilFunc, .int .i64 1, .int .i64 0, .string (tx k), .int .i64 0, .int .i64 0, .int .i64 v.k, .int .i64 v.n, .string (tx v.s), .int .i64 v.x, .int .i64 v.y, .int .i64 a.k, .int .i64 a.n, .string (tx a.s), .int .i64 a.x, .int .i64 a.y, .int .i64 0, .int .i64 0, .string ⟨#[]⟩, .int .i64 0, .int .i64 0, .int .i64 0, .int .i64 0, .string ⟨#[]⟩, .int .i64 0, .int .i64 0, .slice none 0 0, .int .i64 (m : Int)] := rfl
set_option maxRecDepth 100000 in
set_option maxHeartbeats 400000 in
theorem dcz_made (W : World) (A : Option Addr) (c E : Nat) (l : List No) (k : List UInt8) (v a : Va) (m : Nat) : Blk (W.alloc (.cells #[.slice A l.length c, .slice (some ⟨E, 0, none⟩) l.length l.length, .nilFunc, .nilFunc, .nilFunc, .nilFunc, .nilFunc, .nilFunc, .nilFunc, .nilFunc, .nilFunc, .nilFunc, .nilFunc, .nilFunc, .nilFunc, .nilFunc, .nilFunc, .nilFunc, .nilFunc, .nilFunc, .nilFunc, .nilFunc, .nilFunc, .nilFunc, .nilFunc, .nilFunc, .nilFunc, .nilFunc, .nilFunc, .nilFunc, .nilFunc, .nilFunc, .int .i64 1, .int .i64 0, .string (tx k), .int .i64 0, .int .i64 0, .int .i64 v.k, .int .i64 v.n, .string (tx v.s), .int .i64 v.x, .int .i64 v.y, .int .i64 a.k, .int .i64 a.n, .string (tx a.s), .int .i64 a.x, .int .i64 a.y, .int .i64 0, .int .i64 0, .string ⟨#[]⟩, .int .i64 0, .int .i64 0, .int .i64 0, .int .i64 0, .string ⟨#[]⟩, .int .i64 0, .int .i64 0, .slice none 0 0, .int .i64 (m : Int)] 70)) W.heap.size (dcz A c E l.length (S0 k v a) m (.slice none 0 0)) := by
  rw [dcz_lit]
  exact Blk.made W 70 [.slice A l.length c, .slice (some ⟨E, 0, none⟩) l.length l.length, .nilFunc, .nilFunc, .nilFunc, .nilFunc, .nilFunc, .nilFunc, .nilFunc, .nilFunc, .nilFunc, .nilFunc, .nilFunc, .nilFunc, .nilFunc, .nilFunc, .nilFunc, .nilFunc, .nilFunc, .nilFunc, .nilFunc, .nilFunc, .nilFunc, .nilFunc, .nilFunc, .nilFunc, .nilFunc, .nilFunc, .nilFunc, .nilFunc, .nilFunc, .nilFunc, .int .i64 1, .int .i64 0, .string (tx k), .int .i64 0, .int .i64 0, .int .i64 v.k, .int .i64 v.n, .string (tx v.s), .int .i64 v.x, .int .i64 v.y, .int .i64 a.k, .int .i64 a.n, .string (tx a.s), .int .i64 a.x, .int .i64 a.y, .int .i64 0, .int .i64 0, .string ⟨#[]⟩, .int .i64 0, .int .i64 0, .int .i64 0, .int .i64 0, .string ⟨#[]⟩, .int .i64 0, .int .i64 0, .slice none 0 0, .int .i64 (m : Int)] rfl
theorem rnX_bad {l : List No} {k : List UInt8} {v a : Va} {n : Int} (h : ¬ (Rt l = true ∧ rEnv k v a = true ∧ 0 ≤ n ∧ n ≤ 100000)) : rnX l k v a n = .er 1 := if_neg h
set_option maxRecDepth 100000 in
set_option maxHeartbeats 4000000 in
theorem run_no (l : List No) (A : Option Addr) (c : Nat) (k : List UInt8) (v a : Va) (n : Int) (w : World) (hn : Nds w A l) (hkn : KN w) (ht : Tab w) (hl : l.length ≤ 4294967296) (hno : ¬ (Rt l = true ∧ rEnv k v a = true ∧ 0 ≤ n ∧ n ≤ 100000)) :
    Calls Tryz.prog 11 #[.slice A l.length c, .agg #[.string (tx k), .int .i64 v.k, .int .i64 v.n, .string (tx v.s), .int .i64 v.x, .int .i64 v.y, .int .i64 a.k, .int .i64 a.n, .string (tx a.s), .int .i64 a.x, .int .i64 a.y], .int .i64 n] w (RunQ (rnX l k v a n) w) := by
  have h1 : Blk ((w.alloc (.cells #[.string (tx k), .int .i64 v.k, .int .i64 v.n, .string (tx v.s), .int .i64 v.x, .int .i64 v.y, .int .i64 a.k, .int .i64 a.n, .string (tx a.s), .int .i64 a.x, .int .i64 a.y] 28)).alloc (.cells rz7.toArray 36)) w.heap.size (ecl k v a) := (Blk.made w 28 (ecl k v a) rfl).old _
  have h2 : Blk ((w.alloc (.cells #[.string (tx k), .int .i64 v.k, .int .i64 v.n, .string (tx v.s), .int .i64 v.x, .int .i64 v.y, .int .i64 a.k, .int .i64 a.n, .string (tx a.s), .int .i64 a.x, .int .i64 a.y] 28)).alloc (.cells rz7.toArray 36)) (w.heap.size + 1) rz7 := Blk.made _ 36 rz7 (by simp)
  have hb1 := box2 w (.cells #[.string (tx k), .int .i64 v.k, .int .i64 v.n, .string (tx v.s), .int .i64 v.x, .int .i64 v.y, .int .i64 a.k, .int .i64 a.n, .string (tx a.s), .int .i64 a.x, .int .i64 a.y] 28) (.cells rz7.toArray 36)
  have HE1 := Lib.hid h1; have HR1 := Lib.hid h2; have HB1 := Lib.hid hb1
  have HN := Lib.hid hn; have HK := Lib.hid hkn; have HT := Lib.hid ht
  have HRI := Lib.hid (fun w1 (h : Below w.heap.size w w1) => eright_any l A c w1 (hn.next h) (hkn.next h) hl)
  have HX : Hid (rnX l k v a n = .er 1) := rnX_bad hno
  clear h1 h2 hb1 hn hkn ht
  go_enter Tryz.func11, Tryz.ntmps11
  go_wp2_with (fail)
  refine (HRI.out _ HB1.out).mono ?_
  rintro e w2 ⟨rfl, hb⟩
  have HE2 := Lib.hid (HE1.out.next hb); have HR2 := Lib.hid (HR1.out.next hb); have HB2 := Lib.hid (Below.next HB1.out hb)
  clear hb HE1 HR1 HB1 HRI
  rcases Bool.eq_false_or_eq_true (Rt l) with hr | hr
  rotate_left
  · rw [hr]
    have r0 := HR2.out.c 0 _ rfl; have r1 := HR2.out.c 1 _ rfl; have r2 := HR2.out.c 2 _ rfl; have r3 := HR2.out.c 3 _ rfl; have r4 := HR2.out.c 4 _ rfl; have r5 := HR2.out.c 5 _ rfl; have r6 := HR2.out.c 6 _ rfl
    have zr0 := HR2.out.f 0 _ rfl; have zr1 := HR2.out.f 1 _ rfl; have zr2 := HR2.out.f 2 _ rfl; have zr3 := HR2.out.f 3 _ rfl; have zr4 := HR2.out.f 4 _ rfl; have zr5 := HR2.out.f 5 _ rfl; have zr6 := HR2.out.f 6 _ rfl
    have hltR := HR2.out.lt
    go_wp2_with (fail)
    have hx9 := (blk_puts rz7 0 HR2.out (Nat.le_refl 7))
    have hb9 := (below_puts (B := w.heap.size + 1) rz7 0 HB2.out (by omega))
    change Blk _ _ rz7 at hx9
    clear r0 zr0 r1 zr1 r2 zr2 r3 zr3 r4 zr4 r5 zr5 r6 zr6
    change bodyPost _ _ _ _ _ (putL w2 (w.heap.size + 1) 0 rz7)
    generalize (putL w2 (w.heap.size + 1) 0 rz7) = w9 at *
    have c0 := (Lib.hid hx9).out.c 0 _ rfl; have c1 := (Lib.hid hx9).out.c 1 _ rfl; have c2 := (Lib.hid hx9).out.c 2 _ rfl; have c3 := (Lib.hid hx9).out.c 3 _ rfl; have c4 := (Lib.hid hx9).out.c 4 _ rfl; have c5 := (Lib.hid hx9).out.c 5 _ rfl; have c6 := (Lib.hid hx9).out.c 6 _ rfl
    refine bodyPost_ret (v := .tuple #[.agg #[.int .i64 0, .int .i64 0, .string ⟨#[]⟩, .int .i64 0, .int .i64 0, .slice none 0 0, .int .i64 0], .int .i64 1]) (by simp [results, Tryz.results11, go_sem, c0, c1, c2, c3, c4, c5, c6]) rfl ⟨hb9, ?_⟩
    rw [HX.out]; exact ⟨by decide, rfl⟩
  rw [hr]
  have HRT := Lib.hid hr
  have HRE := Lib.hid (renv_any k v a)
  have c0 := HE2.out.c 0 _ rfl; have c1 := HE2.out.c 1 _ rfl; have c2 := HE2.out.c 2 _ rfl; have c3 := HE2.out.c 3 _ rfl; have c4 := HE2.out.c 4 _ rfl; have c5 := HE2.out.c 5 _ rfl; have c6 := HE2.out.c 6 _ rfl; have c7 := HE2.out.c 7 _ rfl; have c8 := HE2.out.c 8 _ rfl; have c9 := HE2.out.c 9 _ rfl; have c10 := HE2.out.c 10 _ rfl
  go_wp2_with (fail)
  refine (HRE.out _).mono ?_
  rintro e w3 ⟨rfl, hb⟩
  have HE3 := Lib.hid (HE2.out.next hb); have HR3 := Lib.hid (HR2.out.next hb); have HB3 := Lib.hid (Below.next HB2.out hb)
  clear hb HE2 HR2 HB2 HRE hr c0 c1 c2 c3 c4 c5 c6 c7 c8 c9 c10
  rcases Bool.eq_false_or_eq_true (rEnv k v a) with hv | hv
  rotate_left
  · rw [hv]
    have r0 := HR3.out.c 0 _ rfl; have r1 := HR3.out.c 1 _ rfl; have r2 := HR3.out.c 2 _ rfl; have r3 := HR3.out.c 3 _ rfl; have r4 := HR3.out.c 4 _ rfl; have r5 := HR3.out.c 5 _ rfl; have r6 := HR3.out.c 6 _ rfl
    have zr0 := HR3.out.f 0 _ rfl; have zr1 := HR3.out.f 1 _ rfl; have zr2 := HR3.out.f 2 _ rfl; have zr3 := HR3.out.f 3 _ rfl; have zr4 := HR3.out.f 4 _ rfl; have zr5 := HR3.out.f 5 _ rfl; have zr6 := HR3.out.f 6 _ rfl
    have hltR := HR3.out.lt
    go_wp2_with (fail)
    have hx9 := (blk_puts rz7 0 HR3.out (Nat.le_refl 7))
    have hb9 := (below_puts (B := w.heap.size + 1) rz7 0 HB3.out (by omega))
    change Blk _ _ rz7 at hx9
    clear r0 zr0 r1 zr1 r2 zr2 r3 zr3 r4 zr4 r5 zr5 r6 zr6
    change bodyPost _ _ _ _ _ (putL w3 (w.heap.size + 1) 0 rz7)
    generalize (putL w3 (w.heap.size + 1) 0 rz7) = w9 at *
    have c0 := (Lib.hid hx9).out.c 0 _ rfl; have c1 := (Lib.hid hx9).out.c 1 _ rfl; have c2 := (Lib.hid hx9).out.c 2 _ rfl; have c3 := (Lib.hid hx9).out.c 3 _ rfl; have c4 := (Lib.hid hx9).out.c 4 _ rfl; have c5 := (Lib.hid hx9).out.c 5 _ rfl; have c6 := (Lib.hid hx9).out.c 6 _ rfl
    refine bodyPost_ret (v := .tuple #[.agg #[.int .i64 0, .int .i64 0, .string ⟨#[]⟩, .int .i64 0, .int .i64 0, .slice none 0 0, .int .i64 0], .int .i64 1]) (by simp [results, Tryz.results11, go_sem, c0, c1, c2, c3, c4, c5, c6]) rfl ⟨hb9, ?_⟩
    rw [HX.out]; exact ⟨by decide, rfl⟩
  rw [hv]
  have HRV := Lib.hid hv
  clear hv
  by_cases hn1 : n < 0
  · skip
    have r0 := HR3.out.c 0 _ rfl; have r1 := HR3.out.c 1 _ rfl; have r2 := HR3.out.c 2 _ rfl; have r3 := HR3.out.c 3 _ rfl; have r4 := HR3.out.c 4 _ rfl; have r5 := HR3.out.c 5 _ rfl; have r6 := HR3.out.c 6 _ rfl
    have zr0 := HR3.out.f 0 _ rfl; have zr1 := HR3.out.f 1 _ rfl; have zr2 := HR3.out.f 2 _ rfl; have zr3 := HR3.out.f 3 _ rfl; have zr4 := HR3.out.f 4 _ rfl; have zr5 := HR3.out.f 5 _ rfl; have zr6 := HR3.out.f 6 _ rfl
    have hltR := HR3.out.lt
    go_wp2_with (fail)
    have hx9 := (blk_puts rz7 0 HR3.out (Nat.le_refl 7))
    have hb9 := (below_puts (B := w.heap.size + 1) rz7 0 HB3.out (by omega))
    change Blk _ _ rz7 at hx9
    clear r0 zr0 r1 zr1 r2 zr2 r3 zr3 r4 zr4 r5 zr5 r6 zr6
    change bodyPost _ _ _ _ _ (putL w3 (w.heap.size + 1) 0 rz7)
    generalize (putL w3 (w.heap.size + 1) 0 rz7) = w9 at *
    have c0 := (Lib.hid hx9).out.c 0 _ rfl; have c1 := (Lib.hid hx9).out.c 1 _ rfl; have c2 := (Lib.hid hx9).out.c 2 _ rfl; have c3 := (Lib.hid hx9).out.c 3 _ rfl; have c4 := (Lib.hid hx9).out.c 4 _ rfl; have c5 := (Lib.hid hx9).out.c 5 _ rfl; have c6 := (Lib.hid hx9).out.c 6 _ rfl
    refine bodyPost_ret (v := .tuple #[.agg #[.int .i64 0, .int .i64 0, .string ⟨#[]⟩, .int .i64 0, .int .i64 0, .slice none 0 0, .int .i64 0], .int .i64 1]) (by simp [results, Tryz.results11, go_sem, c0, c1, c2, c3, c4, c5, c6]) rfl ⟨hb9, ?_⟩
    rw [HX.out]; exact ⟨by decide, rfl⟩
  by_cases hn2 : 100000 < n
  · skip
    have r0 := HR3.out.c 0 _ rfl; have r1 := HR3.out.c 1 _ rfl; have r2 := HR3.out.c 2 _ rfl; have r3 := HR3.out.c 3 _ rfl; have r4 := HR3.out.c 4 _ rfl; have r5 := HR3.out.c 5 _ rfl; have r6 := HR3.out.c 6 _ rfl
    have zr0 := HR3.out.f 0 _ rfl; have zr1 := HR3.out.f 1 _ rfl; have zr2 := HR3.out.f 2 _ rfl; have zr3 := HR3.out.f 3 _ rfl; have zr4 := HR3.out.f 4 _ rfl; have zr5 := HR3.out.f 5 _ rfl; have zr6 := HR3.out.f 6 _ rfl
    have hltR := HR3.out.lt
    go_wp2_with (fail)
    have hx9 := (blk_puts rz7 0 HR3.out (Nat.le_refl 7))
    have hb9 := (below_puts (B := w.heap.size + 1) rz7 0 HB3.out (by omega))
    change Blk _ _ rz7 at hx9
    clear r0 zr0 r1 zr1 r2 zr2 r3 zr3 r4 zr4 r5 zr5 r6 zr6
    change bodyPost _ _ _ _ _ (putL w3 (w.heap.size + 1) 0 rz7)
    generalize (putL w3 (w.heap.size + 1) 0 rz7) = w9 at *
    have c0 := (Lib.hid hx9).out.c 0 _ rfl; have c1 := (Lib.hid hx9).out.c 1 _ rfl; have c2 := (Lib.hid hx9).out.c 2 _ rfl; have c3 := (Lib.hid hx9).out.c 3 _ rfl; have c4 := (Lib.hid hx9).out.c 4 _ rfl; have c5 := (Lib.hid hx9).out.c 5 _ rfl; have c6 := (Lib.hid hx9).out.c 6 _ rfl
    refine bodyPost_ret (v := .tuple #[.agg #[.int .i64 0, .int .i64 0, .string ⟨#[]⟩, .int .i64 0, .int .i64 0, .slice none 0 0, .int .i64 0], .int .i64 1]) (by simp [results, Tryz.results11, go_sem, c0, c1, c2, c3, c4, c5, c6]) rfl ⟨hb9, ?_⟩
    rw [HX.out]; exact ⟨by decide, rfl⟩
  exact absurd ⟨HRT.out, HRV.out, by omega, by omega⟩ hno
end Go.Proofs.YtcdjincaedpodaaGreatDoor.Ev
/-
  Running an expression: all is right (written by gen_evrun.py).
-/
namespace Go.Proofs.YtcdjincaedpodaaGreatDoor.Ev
open Go.ChangeShapes Go.WideShapes Go.ChangeAt Go.RowKit Go.Proofs.YtcdjincaedpodaaGreatDoor.Ov Go.Proofs.YtcdjincaedpodaaGreatDoor.Va Go.Proofs.YtcdjincaedpodaaGreatDoor.Ga Go.Proofs.YtcdjincaedpodaaGreatDoor.Ex

set_option maxRecDepth 100000 in
set_option maxHeartbeats 4000000 in
theorem run_yes (l : List No) (A : Option Addr) (c : Nat) (k : List UInt8) (v a : Va) (m : Nat) (w : World) (hn : Nds w A l) (hkn : KN w) (ht : Tab w) (hl : l.length ≤ 4294967296) (hr : Rt l = true) (hv : rEnv k v a = true) (hm : m ≤ 100000) :
    Calls Tryz.prog 11 #[.slice A l.length c, .agg #[.string (tx k), .int .i64 v.k, .int .i64 v.n, .string (tx v.s), .int .i64 v.x, .int .i64 v.y, .int .i64 a.k, .int .i64 a.n, .string (tx a.s), .int .i64 a.x, .int .i64 a.y], .int .i64 (m : Int)] w (RunQ (rnX l k v a (m : Int)) w) := by
  have h1 : Blk ((w.alloc (.cells #[.string (tx k), .int .i64 v.k, .int .i64 v.n, .string (tx v.s), .int .i64 v.x, .int .i64 v.y, .int .i64 a.k, .int .i64 a.n, .string (tx a.s), .int .i64 a.x, .int .i64 a.y] 28)).alloc (.cells rz7.toArray 36)) w.heap.size (ecl k v a) := (Blk.made w 28 (ecl k v a) rfl).old _
  have h2 : Blk ((w.alloc (.cells #[.string (tx k), .int .i64 v.k, .int .i64 v.n, .string (tx v.s), .int .i64 v.x, .int .i64 v.y, .int .i64 a.k, .int .i64 a.n, .string (tx a.s), .int .i64 a.x, .int .i64 a.y] 28)).alloc (.cells rz7.toArray 36)) (w.heap.size + 1) rz7 := Blk.made _ 36 rz7 (by simp)
  have hb1 := box2 w (.cells #[.string (tx k), .int .i64 v.k, .int .i64 v.n, .string (tx v.s), .int .i64 v.x, .int .i64 v.y, .int .i64 a.k, .int .i64 a.n, .string (tx a.s), .int .i64 a.x, .int .i64 a.y] 28) (.cells rz7.toArray 36)
  have HE1 := Lib.hid h1; have HR1 := Lib.hid h2; have HB1 := Lib.hid hb1
  have HN := Lib.hid hn; have HK := Lib.hid hkn; have HT := Lib.hid ht
  have HRI := Lib.hid (fun w1 (h : Below w.heap.size w w1) => eright_any l A c w1 (hn.next h) (hkn.next h) hl)
  clear h1 h2 hb1 hn hkn ht
  go_enter Tryz.func11, Tryz.ntmps11
  go_wp2_with (fail)
  refine (HRI.out _ HB1.out).mono ?_
  rintro e w2 ⟨rfl, hb⟩
  have HE2 := Lib.hid (HE1.out.next hb); have HR2 := Lib.hid (HR1.out.next hb); have HB2 := Lib.hid (Below.next HB1.out hb)
  clear hb HE1 HR1 HB1 HRI
  rw [hr]
  have HRT := Lib.hid hr
  have HRV := Lib.hid hv
  have HRE := Lib.hid (renv_any k v a)
  rw [hv] at HRE
  have c0 := HE2.out.c 0 _ rfl; have c1 := HE2.out.c 1 _ rfl; have c2 := HE2.out.c 2 _ rfl; have c3 := HE2.out.c 3 _ rfl; have c4 := HE2.out.c 4 _ rfl; have c5 := HE2.out.c 5 _ rfl; have c6 := HE2.out.c 6 _ rfl; have c7 := HE2.out.c 7 _ rfl; have c8 := HE2.out.c 8 _ rfl; have c9 := HE2.out.c 9 _ rfl; have c10 := HE2.out.c 10 _ rfl
  go_wp2_with (fail)
  refine (HRE.out _).mono ?_
  rintro e w3 ⟨rfl, hb⟩
  have HE3 := Lib.hid (HE2.out.next hb); have HR3 := Lib.hid (HR2.out.next hb); have HB3 := Lib.hid (Below.next HB2.out hb)
  clear hb HE2 HR2 HB2 HRE hr hv c0 c1 c2 c3 c4 c5 c6 c7 c8 c9 c10
  have HX : Hid (rnX l k v a (m : Int) = ev 25 l (S0 k v a) m) := by
    show _ = _
    unfold rnX
    rw [if_pos ⟨HRT.out, HRV.out, by omega, by omega⟩]; rfl
  have hlen := (Rt_in HRT.out).1
  have hx25 := (Rt_in HRT.out).2
  have hpos : 0 < l.length := by
    rcases Nat.eq_zero_or_pos l.length with h | h
    · rw [List.length_eq_zero_iff.1 h, ex_nil] at hx25; cases hx25
    · exact h
  have HX25 := Lib.hid hx25
  clear hx25
  have HBE := Lib.hid (fun w1 (h : Below w.heap.size w w1) => behinds_any l A c w1 (HN.out.next h) (HK.out.next h) HRT.out)
  have c0 := HE3.out.c 0 _ rfl; have c1 := HE3.out.c 1 _ rfl; have c2 := HE3.out.c 2 _ rfl; have c3 := HE3.out.c 3 _ rfl; have c4 := HE3.out.c 4 _ rfl; have c5 := HE3.out.c 5 _ rfl; have c6 := HE3.out.c 6 _ rfl; have c7 := HE3.out.c 7 _ rfl; have c8 := HE3.out.c 8 _ rfl; have c9 := HE3.out.c 9 _ rfl; have c10 := HE3.out.c 10 _ rfl
  have hlZ := HE3.out.lt
  go_wp2_with (fail)
  go_region_held3 (fun w' => w'.cell? ⟨w.heap.size, 0, none⟩ = some (.string (tx k)) ∧ w'.cell? ⟨w.heap.size, 1, none⟩ = some (.int .i64 v.k) ∧ w'.cell? ⟨w.heap.size, 2, none⟩ = some (.int .i64 v.n) ∧ w'.cell? ⟨w.heap.size, 3, none⟩ = some (.string (tx v.s)) ∧ w'.cell? ⟨w.heap.size, 4, none⟩ = some (.int .i64 v.x) ∧ w'.cell? ⟨w.heap.size, 5, none⟩ = some (.int .i64 v.y) ∧ w'.cell? ⟨w.heap.size, 6, none⟩ = some (.int .i64 a.k) ∧ w'.cell? ⟨w.heap.size, 7, none⟩ = some (.int .i64 a.n) ∧ w'.cell? ⟨w.heap.size, 8, none⟩ = some (.string (tx a.s)) ∧ w'.cell? ⟨w.heap.size, 9, none⟩ = some (.int .i64 a.x) ∧ w'.cell? ⟨w.heap.size, 10, none⟩ = some (.int .i64 a.y)) (go_keep)
    (first
    | (go_at_call 19
       refine (HBE.out _ (below_drewN HB3.out 1)).mono ?_
       rintro e w4 ⟨rfl, hb4, hlt4, hbe4⟩
       have HE4 := Lib.hid ((HE3.out.next (below_drewN (Below.refl _ _) 1)).next hb4); have HR4 := Lib.hid ((HR3.out.next (below_drewN (Below.refl _ _) 1)).next hb4); have HB4 := Lib.hid (Below.next (below_drewN HB3.out 1) hb4)
       have HL4 := Lib.hid hlt4; have HBH4 := Lib.hid hbe4
       clear hb4 hlt4 hbe4
       have d0 := HE4.out.c 0 _ rfl; have d1 := HE4.out.c 1 _ rfl; have d2 := HE4.out.c 2 _ rfl; have d3 := HE4.out.c 3 _ rfl; have d4 := HE4.out.c 4 _ rfl; have d5 := HE4.out.c 5 _ rfl; have d6 := HE4.out.c 6 _ rfl; have d7 := HE4.out.c 7 _ rfl; have d8 := HE4.out.c 8 _ rfl; have d9 := HE4.out.c 9 _ rfl; have d10 := HE4.out.c 10 _ rfl)
    | (go_at_call 20
       refine (etext_any _ _).mono ?_
       rintro e w5 ⟨rfl, hb5⟩
       have HE5 := Lib.hid (HE4.out.next hb5); have HR5 := Lib.hid (HR4.out.next hb5); have HB5 := Lib.hid (Below.next HB4.out hb5)
       have HL5 : Hid (w3.heap.size < w5.heap.size) := Nat.lt_of_lt_of_le HL4.out hb5.size
       have HBH5 : Hid (∀ k, k < l.length → w5.cell? ⟨w3.heap.size, k, none⟩ = some (bhv l k)) := fun k hk => (hb5.cell (p := ⟨w3.heap.size, k, none⟩) HL4.out).trans (HBH4.out k hk)
       have hlt5 := HE5.out.lt
       clear hb5
       have f0 := HE5.out.c 0 _ rfl; have f1 := HE5.out.c 1 _ rfl; have f2 := HE5.out.c 2 _ rfl; have f3 := HE5.out.c 3 _ rfl; have f4 := HE5.out.c 4 _ rfl; have f5 := HE5.out.c 5 _ rfl; have f6 := HE5.out.c 6 _ rfl; have f7 := HE5.out.c 7 _ rfl; have f8 := HE5.out.c 8 _ rfl; have f9 := HE5.out.c 9 _ rfl; have f10 := HE5.out.c 10 _ rfl))
  rename_i hHd
  clear hHd
  have HD6 : Hid (Blk (w5.alloc (.cells #[.slice A l.length c, .slice (some ⟨w3.heap.size, 0, none⟩) l.length l.length, .nilFunc, .nilFunc, .nilFunc, .nilFunc, .nilFunc, .nilFunc, .nilFunc, .nilFunc, .nilFunc, .nilFunc, .nilFunc, .nilFunc, .nilFunc, .nilFunc, .nilFunc, .nilFunc, .nilFunc, .nilFunc, .nilFunc, .nilFunc, .nilFunc, .nilFunc, .nilFunc, .nilFunc, .nilFunc, .nilFunc, .nilFunc, .nilFunc, .nilFunc, .nilFunc, .int .i64 1, .int .i64 0, .string (tx k), .int .i64 0, .int .i64 0, .int .i64 v.k, .int .i64 v.n, .string (tx v.s), .int .i64 v.x, .int .i64 v.y, .int .i64 a.k, .int .i64 a.n, .string (tx a.s), .int .i64 a.x, .int .i64 a.y, .int .i64 0, .int .i64 0, .string ⟨#[]⟩, .int .i64 0, .int .i64 0, .int .i64 0, .int .i64 0, .string ⟨#[]⟩, .int .i64 0, .int .i64 0, .slice none 0 0, .int .i64 (m : Int)] 70)) w5.heap.size (dcz A c w3.heap.size l.length (S0 k v a) m (.slice none 0 0))) := dcz_made w5 A c w3.heap.size l k v a m
  have HR6 := Lib.hid (HR5.out.old (.cells #[.slice A l.length c, .slice (some ⟨w3.heap.size, 0, none⟩) l.length l.length, .nilFunc, .nilFunc, .nilFunc, .nilFunc, .nilFunc, .nilFunc, .nilFunc, .nilFunc, .nilFunc, .nilFunc, .nilFunc, .nilFunc, .nilFunc, .nilFunc, .nilFunc, .nilFunc, .nilFunc, .nilFunc, .nilFunc, .nilFunc, .nilFunc, .nilFunc, .nilFunc, .nilFunc, .nilFunc, .nilFunc, .nilFunc, .nilFunc, .nilFunc, .nilFunc, .int .i64 1, .int .i64 0, .string (tx k), .int .i64 0, .int .i64 0, .int .i64 v.k, .int .i64 v.n, .string (tx v.s), .int .i64 v.x, .int .i64 v.y, .int .i64 a.k, .int .i64 a.n, .string (tx a.s), .int .i64 a.x, .int .i64 a.y, .int .i64 0, .int .i64 0, .string ⟨#[]⟩, .int .i64 0, .int .i64 0, .int .i64 0, .int .i64 0, .string ⟨#[]⟩, .int .i64 0, .int .i64 0, .slice none 0 0, .int .i64 (m : Int)] 70)); have HB6 := Lib.hid (HB5.out.alloc HB5.out.size (.cells #[.slice A l.length c, .slice (some ⟨w3.heap.size, 0, none⟩) l.length l.length, .nilFunc, .nilFunc, .nilFunc, .nilFunc, .nilFunc, .nilFunc, .nilFunc, .nilFunc, .nilFunc, .nilFunc, .nilFunc, .nilFunc, .nilFunc, .nilFunc, .nilFunc, .nilFunc, .nilFunc, .nilFunc, .nilFunc, .nilFunc, .nilFunc, .nilFunc, .nilFunc, .nilFunc, .nilFunc, .nilFunc, .nilFunc, .nilFunc, .nilFunc, .nilFunc, .int .i64 1, .int .i64 0, .string (tx k), .int .i64 0, .int .i64 0, .int .i64 v.k, .int .i64 v.n, .string (tx v.s), .int .i64 v.x, .int .i64 v.y, .int .i64 a.k, .int .i64 a.n, .string (tx a.s), .int .i64 a.x, .int .i64 a.y, .int .i64 0, .int .i64 0, .string ⟨#[]⟩, .int .i64 0, .int .i64 0, .int .i64 0, .int .i64 0, .string ⟨#[]⟩, .int .i64 0, .int .i64 0, .slice none 0 0, .int .i64 (m : Int)] 70))
  have HBH6 : Hid (∀ q, q < l.length → (w5.alloc (.cells #[.slice A l.length c, .slice (some ⟨w3.heap.size, 0, none⟩) l.length l.length, .nilFunc, .nilFunc, .nilFunc, .nilFunc, .nilFunc, .nilFunc, .nilFunc, .nilFunc, .nilFunc, .nilFunc, .nilFunc, .nilFunc, .nilFunc, .nilFunc, .nilFunc, .nilFunc, .nilFunc, .nilFunc, .nilFunc, .nilFunc, .nilFunc, .nilFunc, .nilFunc, .nilFunc, .nilFunc, .nilFunc, .nilFunc, .nilFunc, .nilFunc, .nilFunc, .int .i64 1, .int .i64 0, .string (tx k), .int .i64 0, .int .i64 0, .int .i64 v.k, .int .i64 v.n, .string (tx v.s), .int .i64 v.x, .int .i64 v.y, .int .i64 a.k, .int .i64 a.n, .string (tx a.s), .int .i64 a.x, .int .i64 a.y, .int .i64 0, .int .i64 0, .string ⟨#[]⟩, .int .i64 0, .int .i64 0, .int .i64 0, .int .i64 0, .string ⟨#[]⟩, .int .i64 0, .int .i64 0, .slice none 0 0, .int .i64 (m : Int)] 70)).cell? ⟨w3.heap.size, q, none⟩ = some (bhv l q)) := fun q hq => (World.cell?_alloc_past _ _ _ HL5.out).trans (HBH5.out q hq)
  have HS6 : Hid ((w5.alloc (.cells #[.slice A l.length c, .slice (some ⟨w3.heap.size, 0, none⟩) l.length l.length, .nilFunc, .nilFunc, .nilFunc, .nilFunc, .nilFunc, .nilFunc, .nilFunc, .nilFunc, .nilFunc, .nilFunc, .nilFunc, .nilFunc, .nilFunc, .nilFunc, .nilFunc, .nilFunc, .nilFunc, .nilFunc, .nilFunc, .nilFunc, .nilFunc, .nilFunc, .nilFunc, .nilFunc, .nilFunc, .nilFunc, .nilFunc, .nilFunc, .nilFunc, .nilFunc, .int .i64 1, .int .i64 0, .string (tx k), .int .i64 0, .int .i64 0, .int .i64 v.k, .int .i64 v.n, .string (tx v.s), .int .i64 v.x, .int .i64 v.y, .int .i64 a.k, .int .i64 a.n, .string (tx a.s), .int .i64 a.x, .int .i64 a.y, .int .i64 0, .int .i64 0, .string ⟨#[]⟩, .int .i64 0, .int .i64 0, .int .i64 0, .int .i64 0, .string ⟨#[]⟩, .int .i64 0, .int .i64 0, .slice none 0 0, .int .i64 (m : Int)] 70)).heap.size = w5.heap.size + 1) := World.size_alloc _ _
  clear d0 d1 d2 d3 d4 d5 d6 d7 d8 d9 d10 f0 c0 f1 c1 f2 c2 f3 c3 f4 c4 f5 c5 f6 c6 f7 c7 f8 c8 f9 c9 f10 c10 HE5 HR5 HB5 HBH5 HE4 HR4 HB4 HBH4 HE3 HB3
  obtain ⟨w6, hw6⟩ : ∃ w6, w5.alloc (.cells #[.slice A l.length c, .slice (some ⟨w3.heap.size, 0, none⟩) l.length l.length, .nilFunc, .nilFunc, .nilFunc, .nilFunc, .nilFunc, .nilFunc, .nilFunc, .nilFunc, .nilFunc, .nilFunc, .nilFunc, .nilFunc, .nilFunc, .nilFunc, .nilFunc, .nilFunc, .nilFunc, .nilFunc, .nilFunc, .nilFunc, .nilFunc, .nilFunc, .nilFunc, .nilFunc, .nilFunc, .nilFunc, .nilFunc, .nilFunc, .nilFunc, .nilFunc, .int .i64 1, .int .i64 0, .string (tx k), .int .i64 0, .int .i64 0, .int .i64 v.k, .int .i64 v.n, .string (tx v.s), .int .i64 v.x, .int .i64 v.y, .int .i64 a.k, .int .i64 a.n, .string (tx a.s), .int .i64 a.x, .int .i64 a.y, .int .i64 0, .int .i64 0, .string ⟨#[]⟩, .int .i64 0, .int .i64 0, .int .i64 0, .int .i64 0, .string ⟨#[]⟩, .int .i64 0, .int .i64 0, .slice none 0 0, .int .i64 (m : Int)] 70) = w6 := ⟨_, rfl⟩
  rw [hw6] at HD6 HR6 HB6 HBH6 HS6
  rw [hw6]
  have h35 := HL5.out
  have hR3 := HR3.out.lt
  have hs6 := HS6.out
  clear HL5 HL4 HS6 hlt5 hw6
  have HKI : Hid (∀ w1, Calls Tryz.prog 21 #[.pointer (some ⟨w5.heap.size, 0, none⟩)] w1 (Gives (.agg (dcl w5.heap.size).toArray) w1)) := fun w1 => kinds_any w5.heap.size w1
  have HOC : Hid ((dcl w5.heap.size).toArray.all (·.oneCell') = true) := by show _ = _; simp [dcl, dl, dfn, Value.oneCell']
  obtain ⟨DC, hDC⟩ : ∃ DC, dcl w5.heap.size = DC := ⟨_, rfl⟩
  have HDC := Lib.hid hDC
  rw [hDC] at HKI HOC
  have HDL : Hid (DC.length = 30) := by show _ = _; rw [← hDC]; rfl
  clear hDC
  have HIN : Hid ((Tryz.prog.info? 68).map (·.size) = some DC.toArray.size) := by show _ = _; rw [show DC.toArray.size = 30 by simpa using HDL.out]; kernel_rfl
  go_wp2_with (fail)
  refine (HKI.out _).mono ?_
  rintro e w7 ⟨rfl, hb⟩
  have HD7 := Lib.hid (HD6.out.next hb); have HR7 := Lib.hid (HR6.out.next hb); have HB7 := Lib.hid (Below.next HB6.out hb)
  have HBH7 : Hid (∀ q, q < l.length → w7.cell? ⟨w3.heap.size, q, none⟩ = some (bhv l q)) := fun q hq => (hb.cell (p := ⟨w3.heap.size, q, none⟩) (show w3.heap.size < w6.heap.size by omega)).trans (HBH6.out q hq)
  have hlt7 := HD7.out.lt
  have HTH : Hid (w7.there w5.heap.size 2 DC.toArray.size) := by show World.there _ _ _ _; rw [show DC.toArray.size = 30 by simpa using HDL.out]; exact Blk.there HD7.out (o := 2) (n := 30) (show 32 ≤ 59 by decide)
  clear hb HD6 HR6 HB6 HBH6 HKI
  go_wp2_with (refine wpList_store_mid rfl 68 (.tmp 46) (.tmp 44) rfl w5.heap.size 2 DC.toArray (by simp [Act.eval]) (by simp [Act.eval]) HTH.out HIN.out HOC.out ?_)
  have HDCC := HDC.out
  subst HDCC
  have hd8 : Doer w A c w3.heap.size w5.heap.size l (S0 k v a) m (.slice none 0 0) (w7.setCells w5.heap.size 2 (dcl w5.heap.size)) := by
    rw [setCells_putL]
    refine ⟨below_puts _ _ HB7.out (by omega), by omega, by omega, by omega, (blk_puts (dcl w5.heap.size) 2 HD7.out (show 32 ≤ 59 by decide)).cast (dcz_dcs _ _ _ _ _ _ _ _), fun q hq => ?_, World.ownsRow_nil _ _ _ _, by simp [Value.ownBlock], by simp [Value.ownBlock]⟩
    rw [cell_puts_other (by omega)]; exact HBH7.out q hq
  have hx8 : Box w w5.heap.size w3.heap.size (.slice none 0 0) (w.heap.size + 1) rz7 (w7.setCells w5.heap.size 2 (dcl w5.heap.size)) := by
    rw [setCells_putL]
    exact ⟨blk_puts_other (by omega) _ _ HR7.out, by omega, by omega, by simp [Value.ownBlock], by omega⟩
  have HRV2 := HRV.out
  unfold rEnv at HRV2
  simp only [Bool.and_eq_true, decide_eq_true_eq] at HRV2
  have HG8 : Hid (Gd (S0 k v a) m) := ⟨HRV2.1.1, HRV2.1.2, HRV2.2, (by show (-9007199254740992 : Int) ≤ 0 ∧ (0 : Int) ≤ 9007199254740992; decide), rt_vz, Nat.zero_le _, hm⟩
  have HDO : Hid (Calls Tryz.prog 22 #[.pointer (some ⟨w5.heap.size, 0, none⟩), .int .i64 0] (w7.setCells w5.heap.size 2 (dcl w5.heap.size)) (Dn (ev 25 l (S0 k v a) m) w A c w3.heap.size w5.heap.size l (.slice none 0 0) (w7.setCells w5.heap.size 2 (dcl w5.heap.size)))) :=
    do_any 25 w A c w3.heap.size w5.heap.size l (S0 k v a) m (.slice none 0 0) _ 0 [] ⟨HN.out, HK.out, HT.out, hlen⟩ hd8 HG8.out HX25.out (Nat.le_refl _)
  have HX8 := Lib.hid hx8
  clear hd8 hx8 HRV2 HD7 HR7 HB7 HBH7 HTH
  refine (HDO.out).mono ?_
  rintro e w9 ⟨u, x, S1, n1, ov1, rfl, ha, hd, hmv⟩
  have HA := Lib.hid ha; have HD9 := Lib.hid hd; have HX9 := Lib.hid (HX8.out.mv hmv)
  clear ha hd hmv HX8 HDO
  have hRP : w.heap.size + 1 ≠ w9.heap.size := Nat.ne_of_lt HX9.out.blk.lt
  have hRb : w.heap.size + 1 ≠ w5.heap.size := HX9.out.nb
  have hbP : w5.heap.size ≠ w9.heap.size := Nat.ne_of_lt HD9.out.lt
  have r0 := HX9.out.blk.c 0 _ rfl; have r1 := HX9.out.blk.c 1 _ rfl; have r2 := HX9.out.blk.c 2 _ rfl; have r3 := HX9.out.blk.c 3 _ rfl; have r4 := HX9.out.blk.c 4 _ rfl; have r5 := HX9.out.blk.c 5 _ rfl; have r6 := HX9.out.blk.c 6 _ rfl
  have zr0 := HX9.out.blk.f 0 _ rfl; have zr1 := HX9.out.blk.f 1 _ rfl; have zr2 := HX9.out.blk.f 2 _ rfl; have zr3 := HX9.out.blk.f 3 _ rfl; have zr4 := HX9.out.blk.f 4 _ rfl; have zr5 := HX9.out.blk.f 5 _ rfl; have zr6 := HX9.out.blk.f 6 _ rfl
  have hltR := HX9.out.blk.lt
  have hltb := HD9.out.lt
  rcases HA.out.cases with ⟨hx0, hX⟩ | ⟨rfl, q, rfl, hX⟩
  · have HXX : Hid (rnX l k v a (m : Int) = .er x) := by show _ = _; rw [HX.out, hX]
    have HX0 := Lib.hid hx0
    have hx1 : (x == 0) = false := by simpa using hx0
    have hx2 : (x != 0) = true := by simpa using hx0
    clear hx0 hX HA
    go_wp2_with (fail)
    have hx9 := (blk_puts rz7 0 HX9.out.blk (Nat.le_refl 7)).old (.cells #[.int .i64 u.k, .int .i64 u.n, .string (tx u.s), .int .i64 u.x, .int .i64 u.y] 26)
    have hb9 := (below_puts (B := w.heap.size + 1) rz7 0 HD9.out.fro (by omega)).alloc (by rw [size_puts]; have := HD9.out.fro.size; omega) (.cells #[.int .i64 u.k, .int .i64 u.n, .string (tx u.s), .int .i64 u.x, .int .i64 u.y] 26)
    change Blk _ _ rz7 at hx9
    clear r0 zr0 r1 zr1 r2 zr2 r3 zr3 r4 zr4 r5 zr5 r6 zr6
    change bodyPost _ _ _ _ _ ((putL w9 (w.heap.size + 1) 0 rz7).alloc (.cells #[.int .i64 u.k, .int .i64 u.n, .string (tx u.s), .int .i64 u.x, .int .i64 u.y] 26))
    generalize (putL w9 (w.heap.size + 1) 0 rz7).alloc (.cells #[.int .i64 u.k, .int .i64 u.n, .string (tx u.s), .int .i64 u.x, .int .i64 u.y] 26) = w11 at *
    have c0 := hx9.c 0 _ rfl; have c1 := hx9.c 1 _ rfl; have c2 := hx9.c 2 _ rfl; have c3 := hx9.c 3 _ rfl; have c4 := hx9.c 4 _ rfl; have c5 := hx9.c 5 _ rfl; have c6 := hx9.c 6 _ rfl
    refine bodyPost_ret (v := .tuple #[.agg #[.int .i64 0, .int .i64 0, .string ⟨#[]⟩, .int .i64 0, .int .i64 0, .slice none 0 0, .int .i64 0], .int .i64 x]) (by simp [results, Tryz.results11, go_sem, c0, c1, c2, c3, c4, c5, c6]) rfl ⟨hb9, ?_⟩
    rw [HXX.out]; exact ⟨HX0.out, rfl⟩
  · have HXX : Hid (rnX l k v a (m : Int) = .ok u S1 n1) := by show _ = _; rw [HX.out, hX]
    have hru : rt u = true := (ev_good 25 (Nat.le_refl _) l [] HX25.out (S0 k v a) m u S1 n1 HG8.out hX).1
    have HOW := Lib.hid (own_any u.k u.n u.x u.y (tx u.s) (by have := (rt_all hru).2.1; have := tx_size u.s; omega))
    obtain ⟨Ao, co, hov⟩ := own_slice HD9.out.out
    have g57 : w9.cell? ⟨w5.heap.size, 57, none⟩ = some ov1 := HD9.out.blk.c 57 _ rfl
    have g58 : w9.cell? ⟨w5.heap.size, 58, none⟩ = some (.int .i64 (n1 : Int)) := HD9.out.blk.c 58 _ rfl
    have HPP : Hid (Blk (w9.alloc (.cells #[.int .i64 u.k, .int .i64 u.n, .string (tx u.s), .int .i64 u.x, .int .i64 u.y] 26)) w9.heap.size (vcl u)) := Blk.made w9 26 (vcl u) rfl
    clear hX HA hru
    subst hov
    go_wp2_with (fail)
    go_region_held3 (fun w' => w'.cell? ⟨w9.heap.size, 0, none⟩ = some (.int .i64 u.k) ∧ w'.cell? ⟨w9.heap.size, 1, none⟩ = some (.int .i64 u.n) ∧ w'.cell? ⟨w9.heap.size, 2, none⟩ = some (.string (tx u.s)) ∧ w'.cell? ⟨w9.heap.size, 3, none⟩ = some (.int .i64 u.x) ∧ w'.cell? ⟨w9.heap.size, 4, none⟩ = some (.int .i64 u.y) ∧ w'.cell? ⟨w5.heap.size, 57, none⟩ = some (.slice Ao S1.out.length co) ∧ w'.cell? ⟨w5.heap.size, 58, none⟩ = some (.int .i64 (n1 : Int))) (go_keep)
      (first
      | (go_at_call 23
         refine (HOW.out _).mono ?_
         rintro e w10 ⟨rfl, hb⟩
         have HD10 := Lib.hid (((HD9.out.old (box1 w9 (.cells #[.int .i64 u.k, .int .i64 u.n, .string (tx u.s), .int .i64 u.x, .int .i64 u.y] 26))).old (below_drewN (Below.refl _ _) 1)).old hb); have HX10 := Lib.hid (((HX9.out.old (box1 w9 (.cells #[.int .i64 u.k, .int .i64 u.n, .string (tx u.s), .int .i64 u.x, .int .i64 u.y] 26))).old (below_drewN (Below.refl _ _) 1)).old hb); have HP10 := Lib.hid ((HPP.out.next (below_drewN (Below.refl _ _) 1)).next hb)
         have p0 := HP10.out.c 0 _ rfl; have p1 := HP10.out.c 1 _ rfl; have p2 := HP10.out.c 2 _ rfl; have p3 := HP10.out.c 3 _ rfl; have p4 := HP10.out.c 4 _ rfl
         have t0 := HX10.out.blk.c 0 _ rfl; have t1 := HX10.out.blk.c 1 _ rfl; have t2 := HX10.out.blk.c 2 _ rfl; have t3 := HX10.out.blk.c 3 _ rfl; have t4 := HX10.out.blk.c 4 _ rfl; have t5 := HX10.out.blk.c 5 _ rfl; have t6 := HX10.out.blk.c 6 _ rfl
         have zt0 := HX10.out.blk.f 0 _ rfl; have zt1 := HX10.out.blk.f 1 _ rfl; have zt2 := HX10.out.blk.f 2 _ rfl; have zt3 := HX10.out.blk.f 3 _ rfl; have zt4 := HX10.out.blk.f 4 _ rfl; have zt5 := HX10.out.blk.f 5 _ rfl; have zt6 := HX10.out.blk.f 6 _ rfl
         have m57 : w10.cell? ⟨w5.heap.size, 57, none⟩ = some (.slice Ao S1.out.length co) := HD10.out.blk.c 57 _ rfl
         have m58 : w10.cell? ⟨w5.heap.size, 58, none⟩ = some (.int .i64 (n1 : Int)) := HD10.out.blk.c 58 _ rfl
         have hlt10 := HX10.out.blk.lt; have hlb10 := HD10.out.lt; have hlp10 := HP10.out.lt
         clear hb))
    rename_i hHd
    clear hHd
    go_wp2_with (fail)
    have hx11 := HX10.out.puts [.int .i64 u.k, .int .i64 u.n, .string (tx u.s), .int .i64 u.x, .int .i64 u.y, .slice Ao S1.out.length co, .int .i64 (n1 : Int)] rfl
    have hd11 := HD10.out.puts HX10.out 0 [.int .i64 u.k, .int .i64 u.n, .string (tx u.s), .int .i64 u.x, .int .i64 u.y, .slice Ao S1.out.length co, .int .i64 (n1 : Int)]
    clear p0 p1 p2 p3 p4 t0 zt0 t1 zt1 t2 zt2 t3 zt3 t4 zt4 t5 zt5 t6 zt6 HX10 HD10 HP10
    change bodyPost _ _ _ _ _ (putL w10 (w.heap.size + 1) 0 [.int .i64 u.k, .int .i64 u.n, .string (tx u.s), .int .i64 u.x, .int .i64 u.y, .slice Ao S1.out.length co, .int .i64 (n1 : Int)])
    generalize putL w10 (w.heap.size + 1) 0 [.int .i64 u.k, .int .i64 u.n, .string (tx u.s), .int .i64 u.x, .int .i64 u.y, .slice Ao S1.out.length co, .int .i64 (n1 : Int)] = w11 at *
    have c0 := hx11.blk.c 0 _ rfl; have c1 := hx11.blk.c 1 _ rfl; have c2 := hx11.blk.c 2 _ rfl; have c3 := hx11.blk.c 3 _ rfl; have c4 := hx11.blk.c 4 _ rfl; have c5 := hx11.blk.c 5 _ rfl; have c6 := hx11.blk.c 6 _ rfl
    refine bodyPost_ret (v := .tuple #[.agg #[.int .i64 u.k, .int .i64 u.n, .string (tx u.s), .int .i64 u.x, .int .i64 u.y, .slice Ao S1.out.length co, .int .i64 (n1 : Int)], .int .i64 0]) (by simp [results, Tryz.results11, go_sem, c0, c1, c2, c3, c4, c5, c6]) rfl ⟨hd11.fro, ?_⟩
    rw [HXX.out]; exact ⟨Ao, co, hd11.out, rfl⟩
end Go.Proofs.YtcdjincaedpodaaGreatDoor.Ev
/-
  Steps: just as many as it takes are enough; more change nothing but what is left. Plain.
-/
namespace Go.Proofs.YtcdjincaedpodaaGreatDoor.Ev
open Go.Proofs.YtcdjincaedpodaaGreatDoor.Ov Go.Proofs.YtcdjincaedpodaaGreatDoor.Tp Go.Proofs.YtcdjincaedpodaaGreatDoor.Ga Go.Proofs.YtcdjincaedpodaaGreatDoor.Va Go.Proofs.YtcdjincaedpodaaGreatDoor.Ex

/-- What a doing does with steps. -/
def Fu {α : Type} (f : M α) : Prop := ∀ S n, (∃ a S1 m, m ≤ n ∧ f S n = .ok a S1 m ∧ (∀ j, f S (n - m + j) = .ok a S1 j) ∧ ∀ j, j < n - m → f S j = .er 15) ∨ (∃ x, f S n = .er x ∧ (x ≠ 15 → ∀ j, f S (n + j) = .er x))
/-- A doing that takes no step. -/
theorem Fu.still {α : Type} {f : M α} (h : ∀ S, (∃ a S1, ∀ n, f S n = .ok a S1 n) ∨ ∃ x, ∀ n, f S n = .er x) : Fu f := by
  intro S n
  rcases h S with ⟨a, S1, g⟩ | ⟨x, g⟩
  · exact .inl ⟨a, S1, n, Nat.le_refl _, g n, fun j => by rw [Nat.sub_self, Nat.zero_add]; exact g j, fun j hj => by omega⟩
  · exact .inr ⟨x, g n, fun _ j => g _⟩
theorem Fu.bnd {α β : Type} {f : M α} {g : α → M β} (hf : Fu f) (hg : ∀ a, Fu (g a)) : Fu (bnd f g) := by
  intro S n
  rcases hf S n with ⟨a, S1, m, hm, e, e1, e2⟩ | ⟨x, e, e1⟩
  · rcases hg a S1 m with ⟨b, S2, k, hk, q, q1, q2⟩ | ⟨x, q, q1⟩
    · refine .inl ⟨b, S2, k, by omega, by rw [bnd_ok e]; exact q, fun j => ?_, fun j hj => ?_⟩
      · rw [show n - k + j = n - m + (m - k + j) by omega, bnd_ok (e1 _)]; exact q1 j
      · by_cases h : j < n - m
        · exact bnd_er (e2 j h)
        · rw [show j = n - m + (j - (n - m)) by omega, bnd_ok (e1 _)]; exact q2 _ (by omega)
    · refine .inr ⟨x, by rw [bnd_ok e]; exact q, fun hx j => ?_⟩
      rw [show n + j = n - m + (m + j) by omega, bnd_ok (e1 _)]; exact q1 hx j
  · exact .inr ⟨x, bnd_er e, fun hx j => bnd_er (e1 hx j)⟩
theorem Fu.ret {α : Type} (a : α) : Fu (ret a) := .still fun S => .inl ⟨a, S, fun _ => rfl⟩
theorem Fu.fail {α : Type} (x : Int) : Fu (fail x : M α) := .still fun _ => .inr ⟨x, fun _ => rfl⟩
theorem Fu.nmd (k : Int) : Fu (nmd k) := .still fun S => .inl ⟨_, S, fun _ => rfl⟩
theorem Fu.setI (k : Int) : Fu (setI k) := .still fun _ => .inl ⟨(), _, fun _ => rfl⟩
theorem Fu.emit (k : List UInt8) (v : Va) : Fu (emitM k v) := .still fun S => by
  by_cases h : 64 ≤ S.out.length
  · exact .inr ⟨22, fun n => by unfold emitM; rw [if_pos h]⟩
  · exact .inl ⟨v, _, fun n => by unfold emitM; rw [if_neg h]⟩
theorem Fu.lift (x : Int ⊕ Va) : Fu (lift x) := by
  cases x with
  | inl e => exact .fail e
  | inr v => exact .ret v
theorem Fu.ite {α : Type} {c : Prop} [Decidable c] {f g : M α} (hf : Fu f) (hg : Fu g) : Fu (if c then f else g) := by
  split
  · exact hf
  · exact hg
theorem Fu.tick : Fu tick := by
  intro S n
  cases n with
  | zero => exact .inr ⟨15, rfl, fun h => absurd rfl h⟩
  | succ n =>
    refine .inl ⟨(), S, n, Nat.le_succ _, rfl, fun j => by rw [show n + 1 - n + j = j + 1 by omega]; rfl, fun j hj => ?_⟩
    obtain rfl : j = 0 := by omega
    rfl
theorem Fu.withI {f : M Va} (h : Fu f) : Fu (withI f) := by
  intro S n
  rcases h S n with ⟨a, S1, m, hm, e, e1, e2⟩ | ⟨x, e, e1⟩
  · exact .inl ⟨a, { S1 with i := S.i }, m, hm, by unfold Ev.withI; rw [e], fun j => by unfold Ev.withI; rw [e1], fun j hj => by unfold Ev.withI; rw [e2 j hj]⟩
  · exact .inr ⟨x, by unfold Ev.withI; rw [e], fun hx j => by unfold Ev.withI; rw [e1 hx]⟩
theorem Fu.withIt {v : Va} {f : M Va} (h : Fu f) : Fu (withIt v f) := by
  intro S n
  rcases h { S with it := v } n with ⟨a, S1, m, hm, e, e1, e2⟩ | ⟨x, e, e1⟩
  · exact .inl ⟨a, { S1 with it := S.it }, m, hm, by unfold Ev.withIt; rw [e], fun j => by unfold Ev.withIt; rw [e1], fun j hj => by unfold Ev.withIt; rw [e2 j hj]⟩
  · exact .inr ⟨x, by unfold Ev.withIt; rw [e], fun hx j => by unfold Ev.withIt; rw [e1 hx]⟩
theorem Fu.ap (o : Int) (l : List Va) : Fu (ap o l) := by
  unfold Ev.ap
  exact .ite (.fail _) (.ite (.ite (.fail _) (.emit _ _)) (.lift _))
theorem Fu.lp {g : M Va} (h : Fu g) : ∀ (t : Nat) (k : Int) (v : Va), Fu (lp g t k v)
  | 0, _, v => .ret v
  | t + 1, k, v => by rw [lp_succ]; exact (Fu.setI k).bnd fun _ => h.bnd fun v => Fu.lp h t (k + 1) v
theorem Fu.va {f : List No → M Va} (h : ∀ r, Fu (f r)) : ∀ (k : Nat) (r : List No) (acc : List Va), Fu (va f k r acc)
  | 0, _, _ => .ret _
  | k + 1, r, acc => by rw [va_succ]; exact (h r).bnd fun v => Fu.va h k _ _
theorem Fu.body {f : List No → M Va} (h : ∀ r, Fu (f r)) (n : No) (r : List No) : Fu (body f n r) := by
  unfold Ev.body
  exact .ite (.ret _) (.ite (.nmd _) (.ite ((h r).bnd fun a => .ite (.fail _) (.ite (h _) (h _))) (.ite ((h r).bnd fun a => .ite (.fail _) (.ite (.fail _) (.withI (.lp (h _) _ _ _)))) (.ite ((h r).bnd fun a => .withIt (h _)) ((Fu.va h _ _ _).bnd fun l => .ap _ l)))))
theorem ev_fu : ∀ (d : Nat) (l : List No), Fu (ev d l)
  | 0, _ => .fail 15
  | _ + 1, [] => .fail 15
  | d + 1, n :: r => by rw [ev_cons]; exact Fu.tick.bnd fun _ => .body (ev_fu d) n r
end Go.Proofs.YtcdjincaedpodaaGreatDoor.Ev
/-
  Running an expression, whatever is handed in; how many steps it takes.
-/
namespace Go.Proofs.YtcdjincaedpodaaGreatDoor.Ev
open Go.ChangeShapes Go.WideShapes Go.ChangeAt Go.RowKit Go.Proofs.YtcdjincaedpodaaGreatDoor.Ov Go.Proofs.YtcdjincaedpodaaGreatDoor.Va Go.Proofs.YtcdjincaedpodaaGreatDoor.Ga Go.Proofs.YtcdjincaedpodaaGreatDoor.Ex

theorem run_any (l : List No) (A : Option Addr) (c : Nat) (k : List UInt8) (v a : Va) (n : Int) (w : World) (hn : Nds w A l) (hkn : KN w) (ht : Tab w) (hl : l.length ≤ 4294967296) :
    Calls Tryz.prog 11 #[.slice A l.length c, .agg #[.string (tx k), .int .i64 v.k, .int .i64 v.n, .string (tx v.s), .int .i64 v.x, .int .i64 v.y, .int .i64 a.k, .int .i64 a.n, .string (tx a.s), .int .i64 a.x, .int .i64 a.y], .int .i64 n] w (RunQ (rnX l k v a n) w) := by
  by_cases h : Rt l = true ∧ rEnv k v a = true ∧ 0 ≤ n ∧ n ≤ 100000
  · obtain ⟨h1, h2, h3, h4⟩ := h
    obtain ⟨m, rfl⟩ : ∃ m : Nat, n = (m : Int) := ⟨n.toNat, by omega⟩
    exact run_yes l A c k v a m w hn hkn ht hl h1 h2 (by omega)
  · exact run_no l A c k v a n w hn hkn ht hl h
/-- What Steps answers. -/
def stv (X : Rs Va) : Value := match X with
  | .er x => .tuple #[.int .i64 0, .int .i64 x]
  | .ok _ _ n => .tuple #[.int .i64 (100000 - (n : Int)), .int .i64 0]
theorem rnX_left {l : List No} {k : List UInt8} {v a u : Va} {n : Int} {S : St} {m : Nat} (h : rnX l k v a n = .ok u S m) : m ≤ n ∧ rt u = true ∧ S.out.length ≤ 64 ∧ (∀ p ∈ S.out, True) := by
  unfold rnX at h
  split at h
  · rename_i hc
    obtain ⟨h1, h2, h3, h4⟩ := hc
    have h2' := h2
    unfold rEnv at h2'
    simp only [Bool.and_eq_true, decide_eq_true_eq] at h2'
    have hg : Gd (S0 k v a) n.toNat := ⟨h2'.1.1, h2'.1.2, h2'.2, (by show (-9007199254740992 : Int) ≤ 0 ∧ (0 : Int) ≤ 9007199254740992; decide), rt_vz, Nat.zero_le _, by omega⟩
    obtain ⟨g1, g2⟩ := ev_good 25 (Nat.le_refl _) l [] (Rt_in h1).2 _ _ _ _ _ hg h
    rcases ev_fu 25 l (S0 k v a) n.toNat with ⟨a', S1, m', hm, e, _, _⟩ | ⟨x, e, _⟩
    · rw [h] at e
      injection e with _ _ e3
      subst e3
      exact ⟨by omega, g1, g2.out, fun _ _ => trivial⟩
    · rw [h] at e; cases e
  · cases h
set_option maxRecDepth 100000 in
set_option maxHeartbeats 4000000 in
theorem steps_any (l : List No) (A : Option Addr) (c : Nat) (k : List UInt8) (v a : Va) (w : World) (hn : Nds w A l) (hkn : KN w) (ht : Tab w) (hl : l.length ≤ 4294967296) :
    Calls Tryz.prog 12 #[.slice A l.length c, .agg #[.string (tx k), .int .i64 v.k, .int .i64 v.n, .string (tx v.s), .int .i64 v.x, .int .i64 v.y, .int .i64 a.k, .int .i64 a.n, .string (tx a.s), .int .i64 a.x, .int .i64 a.y]] w (Gives (stv (rnX l k v a 100000)) w) := by
  have hb1 := box1 w (.cells #[.string (tx k), .int .i64 v.k, .int .i64 v.n, .string (tx v.s), .int .i64 v.x, .int .i64 v.y, .int .i64 a.k, .int .i64 a.n, .string (tx a.s), .int .i64 a.x, .int .i64 a.y] 28)
  have HB1 := Lib.hid hb1
  have HRU := Lib.hid (fun w1 (h : Below w.heap.size w w1) => run_any l A c k v a 100000 w1 (hn.next h) (hkn.next h) (ht.next h) hl)
  clear hb1 hn hkn ht
  go_enter Tryz.func12, Tryz.ntmps12
  go_wp2_with (fail)
  refine (HRU.out _ HB1.out).mono ?_
  rintro e w2 ⟨hb, hq⟩
  have HB2 := Lib.hid (Below.next HB1.out hb)
  clear hb HB1 HRU
  obtain ⟨X, hX⟩ : ∃ X, rnX l k v a 100000 = X := ⟨_, rfl⟩
  have HXE := Lib.hid hX
  rw [hX] at hq ⊢
  clear hX
  cases X with
  | er x =>
    obtain ⟨hx0, rfl⟩ := hq
    have HR : Hid (stv (.er x) = .tuple #[.int .i64 0, .int .i64 x]) := rfl
    have hx1 : (x == 0) = false := by simpa using hx0
    have hx2 : (x != 0) = true := by simpa using hx0
    clear hx0
    go_wp2_with (fail)
    go_ret2
    exact ⟨by rw [HXE.out, HR.out]; rfl, HB2.out.alloc HB2.out.size _⟩
  | ok u S n =>
    obtain ⟨Ao, co, _, rfl⟩ := hq
    have hn : (n : Int) ≤ 100000 := (rnX_left HXE.out).1
    have HR : Hid (stv (.ok u S n) = .tuple #[.int .i64 (100000 - (n : Int)), .int .i64 0]) := rfl
    go_wp2_with (fail)
    go_ret2
    exact ⟨by rw [HXE.out, HR.out]; rfl, HB2.out.alloc HB2.out.size _⟩
end Go.Proofs.YtcdjincaedpodaaGreatDoor.Ev
/-
  '!=' of values, of nodes.
-/
namespace Go.Proofs.YtcdjincaedpodaaGreatDoor.Ex
open Go.ChangeShapes Go.WideShapes Go.ChangeAt Go.RowKit Go.Proofs.YtcdjincaedpodaaGreatDoor.Ov Go.Proofs.YtcdjincaedpodaaGreatDoor.Va

set_option maxRecDepth 100000 in
set_option maxHeartbeats 1000000 in
theorem neq_val (k n x y k' n' x' y' : Int) (s s' : ByteArray) (w : World) : (binOp .neq 26 (.agg #[.int .i64 k, .int .i64 n, .string s, .int .i64 x, .int .i64 y]) (.agg #[.int .i64 k', .int .i64 n', .string s', .int .i64 x', .int .i64 y'])).run Tryz.prog w =
    .ok (.bool (!ve ⟨k, n, s.data.toList, x, y⟩ ⟨k', n', s'.data.toList, x', y'⟩)) w := by
  have e : ve ⟨k, n, s.data.toList, x, y⟩ ⟨k', n', s'.data.toList, x', y'⟩ = ((k == k') && ((n == n') && ((s.toList == s'.toList) && ((x == x') && (y == y'))))) := by
    rw [ByteArray.toList_eq, ByteArray.toList_eq]; unfold ve
    rw [Bool.eq_iff_iff]; simp
  rw [e]; clear e
  have u := Tryz.underlying3
  have hS : Tryz.prog.underlying 26 = some (.struct (Tryz.prog.fieldsOf 26)) := by kernel_rfl
  have hS2 : Tryz.prog.underlying 24 = some (.struct (Tryz.prog.fieldsOf 24)) := by kernel_rfl
  have hp : Tryz.prog.stoodInHeld 26 = false := by kernel_rfl
  have hp2 : Tryz.prog.stoodInHeld 24 = false := by kernel_rfl
  have hq := fun d xs ys w => run_equalIn_struct (P := Tryz.prog) w d 24 xs ys hS2 hp2
  rw [run_neq_struct, show (10000 : Nat) = 9999 + 1 from rfl, run_equalIn_struct w 9999 26 _ _ hS hp]
  clear hS hS2 hp hp2
  simp only [Program.fieldsOf, Tryz.underlying26, Tryz.underlying24] at hq ⊢
  go_simp
  clear hq u
  by_cases h1 : k = k' <;> by_cases h2 : n = n' <;> by_cases h3 : s.toList = s'.toList <;> by_cases h4 : x = x' <;> by_cases h5 : y = y' <;> simp [h1, h2, h3, h4, h5]
set_option maxRecDepth 100000 in
set_option maxHeartbeats 1000000 in
theorem neq_same (n : No) (w : World) : (binOp .neq 45 (nov n) (nov n)).run Tryz.prog w = .ok (.bool false) w := by
  unfold nov
  generalize n.o = o
  generalize n.v.k = a
  generalize n.v.n = b
  generalize tx n.v.s = s
  generalize n.v.x = x
  generalize n.v.y = y
  have u := Tryz.underlying3
  have hN : Tryz.prog.underlying 45 = some (.struct (Tryz.prog.fieldsOf 45)) := by kernel_rfl
  have hS : Tryz.prog.underlying 26 = some (.struct (Tryz.prog.fieldsOf 26)) := by kernel_rfl
  have hS2 : Tryz.prog.underlying 24 = some (.struct (Tryz.prog.fieldsOf 24)) := by kernel_rfl
  have hp0 : Tryz.prog.stoodInHeld 45 = false := by kernel_rfl
  have hp : Tryz.prog.stoodInHeld 26 = false := by kernel_rfl
  have hp2 : Tryz.prog.stoodInHeld 24 = false := by kernel_rfl
  have hr := fun d xs ys w => run_equalIn_struct (P := Tryz.prog) w d 26 xs ys hS hp
  have hq := fun d xs ys w => run_equalIn_struct (P := Tryz.prog) w d 24 xs ys hS2 hp2
  rw [run_neq_struct, show (10000 : Nat) = 9999 + 1 from rfl, run_equalIn_struct w 9999 45 _ _ hN hp0]
  clear hN hS hS2 hp hp0 hp2
  simp only [Program.fieldsOf, Tryz.underlying45, Tryz.underlying26, Tryz.underlying24] at hq hr ⊢
  go_simp
end Go.Proofs.YtcdjincaedpodaaGreatDoor.Ex
/-
  Pairs in memory; whether they are the same.
-/
namespace Go.Proofs.YtcdjincaedpodaaGreatDoor.Ev
open Go.ChangeShapes Go.WideShapes Go.ChangeAt Go.RowKit Go.Proofs.YtcdjincaedpodaaGreatDoor.Ov Go.Proofs.YtcdjincaedpodaaGreatDoor.Va Go.Proofs.YtcdjincaedpodaaGreatDoor.Ex

def pd (l : List (List UInt8 × Va)) (i : Nat) : List UInt8 × Va := (l[i]?).getD ([], vz)
/-- These pairs lie behind a pointer. -/
def Prs (w : World) (p : Option Addr) (l : List (List UInt8 × Va)) : Prop :=
  0 < l.length → ∃ B O, p = some ⟨B, O, none⟩ ∧ ∀ i j v, i < l.length → (pcl (pd l i))[j]? = some v → w.cell? ⟨B, O + i * 6 + j, none⟩ = some v
theorem pcells_at (l : List (List UInt8 × Va)) (i j : Nat) (hi : i < l.length) (hj : j < 6) : (pcells l)[i * 6 + j]? = (pcl (pd l i))[j]? := by
  induction l generalizing i with
  | nil => simp at hi
  | cons n t ih =>
    show (pcl n ++ pcells t)[i * 6 + j]? = _
    cases i with
    | zero =>
      rw [Nat.zero_mul, Nat.zero_add, List.getElem?_append_left (by show j < 6; exact hj)]; rfl
    | succ i =>
      rw [List.getElem?_append_right (by show 6 ≤ _; omega)]
      show (pcells t)[(i + 1) * 6 + j - 6]? = (pcl (pd t i))[j]?
      rw [show (i + 1) * 6 + j - 6 = i * 6 + j by omega]
      exact ih i (by simpa using hi)
section
variable {w w' : World} {p : Option Addr} {l : List (List UInt8 × Va)}
theorem Prs.next (h : Prs w p l) (k : Below w.heap.size w w') : Prs w' p l := fun hn => by
  obtain ⟨B, O, e, hc⟩ := h hn
  exact ⟨B, O, e, fun i j v hi hv => (k.cell (p := ⟨B, O + i * 6 + j, none⟩) (block_lt_of_cell (hc i j v hi hv))).trans (hc i j v hi hv)⟩
theorem Prs.cell {B O : Nat} (h : Prs w (some ⟨B, O, none⟩) l) {i : Nat} (hi : i < l.length) (j : Nat) (v : Value) (hv : (pcl (pd l i))[j]? = some v) : w.cell? ⟨B, O + i * 6 + j, none⟩ = some v := by
  obtain ⟨B', O', e, hc⟩ := h (by omega)
  simp only [Option.some.injEq, Addr.mk.injEq, and_true] at e
  obtain ⟨rfl, rfl⟩ := e
  exact hc i j v hi hv
theorem Prs.shape (h : Prs w p l) (hl : 0 < l.length) : ∃ B O, p = some ⟨B, O, none⟩ := by
  obtain ⟨B, O, e, _⟩ := h hl
  exact ⟨B, O, e⟩
theorem Prs.of_own {base : Nat} {c : Nat} {A : Option Addr} (h : w.ownsRow base 58 6 (.slice A l.length c) l.length (pcells l)) : Prs w A l := fun hn => by
  obtain ⟨g, cap, hv, _, _⟩ := h.form hn
  injection hv with h1 h2 h3
  subst h1; subst h3
  refine ⟨g, 0, rfl, fun i j v hi hv => ?_⟩
  have hj : j < 6 := by
    rcases Nat.lt_or_ge j 6 with h1 | h1
    · exact h1
    · rw [List.getElem?_eq_none (by show 6 ≤ j; exact h1)] at hv; cases hv
  rw [Nat.zero_add, h.cellAt (i * 6 + j) (by omega), pcells_at l i j hi hj, hv]
end
set_option maxRecDepth 100000 in
set_option maxHeartbeats 1000000 in
theorem neq_pair (p : List UInt8 × Va) (w : World) : (binOp .neq 58 (.agg #[.string (tx p.1), .int .i64 p.2.k, .int .i64 p.2.n, .string (tx p.2.s), .int .i64 p.2.x, .int .i64 p.2.y]) (.agg #[.string (tx p.1), .int .i64 p.2.k, .int .i64 p.2.n, .string (tx p.2.s), .int .i64 p.2.x, .int .i64 p.2.y])).run Tryz.prog w = .ok (.bool false) w := by
  generalize tx p.1 = o
  generalize p.2.k = a
  generalize p.2.n = b
  generalize tx p.2.s = s
  generalize p.2.x = x
  generalize p.2.y = y
  have u := Tryz.underlying3
  have hN : Tryz.prog.underlying 58 = some (.struct (Tryz.prog.fieldsOf 58)) := by kernel_rfl
  have hS : Tryz.prog.underlying 26 = some (.struct (Tryz.prog.fieldsOf 26)) := by kernel_rfl
  have hS2 : Tryz.prog.underlying 24 = some (.struct (Tryz.prog.fieldsOf 24)) := by kernel_rfl
  have hp0 : Tryz.prog.stoodInHeld 58 = false := by kernel_rfl
  have hp : Tryz.prog.stoodInHeld 26 = false := by kernel_rfl
  have hp2 : Tryz.prog.stoodInHeld 24 = false := by kernel_rfl
  have hr := fun d xs ys w => run_equalIn_struct (P := Tryz.prog) w d 26 xs ys hS hp
  have hq := fun d xs ys w => run_equalIn_struct (P := Tryz.prog) w d 24 xs ys hS2 hp2
  rw [run_neq_struct, show (10000 : Nat) = 9999 + 1 from rfl, run_equalIn_struct w 9999 58 _ _ hN hp0]
  clear hN hS hS2 hp hp0 hp2
  simp only [Program.fieldsOf, Tryz.underlying58, Tryz.underlying26, Tryz.underlying24] at hq hr ⊢
  go_simp
set_option maxRecDepth 100000 in
set_option maxHeartbeats 2000000 in
theorem same_pairs (l : List (List UInt8 × Va)) (A B : Option Addr) (c d : Nat) (w : World) (ha : Prs w A l) (hb : Prs w B l) (hl : l.length ≤ 4294967296) : Calls Tryz.prog 13 #[.slice A l.length c, .slice B l.length d] w (Gives (.bool true) w) := by
  have HA := Lib.hid ha; have HB := Lib.hid hb
  clear ha hb
  go_enter Tryz.func13, Tryz.ntmps13
  go_wp2_with (fail)
  go_loopw [5] (fun i wr => ∃ k m : Nat, k ≤ l.length ∧ i = .int .i64 (k : Int) ∧ wr = w.drewN m) (fun i _ => l.length - (intOf i).toNat)
  case atStart => exact ⟨0, 0, Nat.zero_le _, rfl, rfl⟩
  case round =>
    obtain ⟨k, m, hk, rfl, rfl⟩ := hrel
    by_cases hlt : k < l.length
    · obtain ⟨G, O, rfl⟩ := HA.out.shape (by omega)
      obtain ⟨G', O', rfl⟩ := HB.out.shape (by omega)
      have hda : Prs (w.drewN m) (some ⟨G, O, none⟩) l := HA.out
      have hdb : Prs (w.drewN m) (some ⟨G', O', none⟩) l := HB.out
      have a0 := hda.cell hlt 0 _ rfl
      have a1 := hda.cell hlt 1 _ rfl
      have a2 := hda.cell hlt 2 _ rfl
      have a3 := hda.cell hlt 3 _ rfl
      have a4 := hda.cell hlt 4 _ rfl
      have a5 := hda.cell hlt 5 _ rfl
      have b0 := hdb.cell hlt 0 _ rfl
      have b1 := hdb.cell hlt 1 _ rfl
      have b2 := hdb.cell hlt 2 _ rfl
      have b3 := hdb.cell hlt 3 _ rfl
      have b4 := hdb.cell hlt 4 _ rfl
      have b5 := hdb.cell hlt 5 _ rfl
      rw [Nat.add_zero] at a0 b0
      have hE := fun w => neq_pair (pd l k) w
      generalize pd l k = n at *
      clear hda hdb
      generalize hwo : w.drewN m = wo at *
      have HWO := Lib.hid hwo; clear hwo
      go_wp2_with (fail)
      go_quiet (fail)
      go_wp2_with (fail)
      go_roundw
      case rel => exact ⟨k + 1, m + _, by omega, by go_num, by rw [← HWO.out, World.drewN_drewN]⟩
      case measure => simp [intOf]; omega
    · go_wp2_with (fail)
      go_ret
      exact ⟨rfl, below_drewN (Below.refl _ _) m⟩
end Go.Proofs.YtcdjincaedpodaaGreatDoor.Ev
/-
  What Parse answers of any text.
-/
namespace Go.Proofs.YtcdjincaedpodaaGreatDoor.Ex
open Go.ChangeShapes Go.WideShapes Go.ChangeAt Go.RowKit Go.Proofs.YtcdjincaedpodaaGreatDoor.Ov Go.Proofs.YtcdjincaedpodaaGreatDoor.Va

/-- Parse's answer r: the list is the call's own. -/
def PP (r : List No × Nat × Nat) (w : World) (e : Ending) (w' : World) : Prop :=
  ∃ A c, e = .returned (.tuple #[.slice A r.1.length c, .int .i64 (r.2.1 : Int), .int .i64 (r.2.2 : Int)]) ∧ w'.ownsRow w.heap.size 59 6 (.slice A r.1.length c) r.1.length (cells r.1) ∧ Below w.heap.size w w'
/-- At the label. -/
def JP (s : ByteArray) (w : World) (a' : Act) (w' : World) : Prop := ∃ (acc : List No) (na : Nat) (m : Nat) (more : List Nat) (k : Nat) (A : Option Addr) (c : Nat) (g d : Nat) (U : Nat → Value),
  (na = acc.length ∧ k ≤ s.size ∧ acc.length ≤ 400 ∧ more.length ≤ 25 ∧ m ≤ 3 ∧ (∀ x ∈ more, x ≤ 3)) ∧
  w'.ownsRow w.heap.size 59 6 (.slice A na c) na (cells acc) ∧ w'.ownsRow w.heap.size 3 1 (.slice (some ⟨g, 0, none⟩) (more.length + 1) d) (more.length + 1) (ints (m :: more).reverse) ∧ Below w.heap.size w w' ∧
  runs ⟨acc, m :: more, s.data.toList.drop k, k⟩ = ps s.data.toList ∧
  a' = { tmps := #[.string s, undef, .slice none 0 0, .int .i64 0, .int .i64 0, .slice A na c, .slice (some ⟨g, 0, none⟩) (more.length + 1) d, .int .i64 (k : Int), (U 8), (U 9), (U 10), (U 11), (U 12), (U 13), (U 14), (U 15), (U 16), (U 17), (U 18), (U 19), (U 20), (U 21), (U 22), (U 23), (U 24), (U 25), (U 26), (U 27), (U 28), (U 29), (U 30), (U 31), (U 32), (U 33), (U 34), (U 35), (U 36), (U 37), (U 38), (U 39), (U 40), (U 41), (U 42), (U 43), (U 44), (U 45), (U 46), (U 47), (U 48), (U 49), (U 50), (U 51), (U 52), (U 53), (U 54), (U 55), (U 56), (U 57), (U 58), (U 59), (U 60), (U 61), (U 62), (U 63), (U 64), (U 65), (U 66), (U 67), (U 68), (U 69), (U 70), (U 71), (U 72), (U 73), (U 74), (U 75), (U 76), (U 77), (U 78), (U 79), (U 80), (U 81), (U 82), (U 83), (U 84), (U 85), (U 86), (U 87), (U 88), (U 89), (U 90), (U 91), (U 92), (U 93), (U 94), (U 95), (U 96), (U 97), (U 98)], defers := [] }
theorem JP.elim {s : ByteArray} {w : World} {X : Act → World → Prop} (h : ∀ (acc : List No) (na : Nat) (m : Nat) (more : List Nat) (k : Nat) (A : Option Addr) (c : Nat) (g d : Nat) (U : Nat → Value) (w' : World),
  (na = acc.length ∧ k ≤ s.size ∧ acc.length ≤ 400 ∧ more.length ≤ 25 ∧ m ≤ 3 ∧ (∀ x ∈ more, x ≤ 3)) →
  w'.ownsRow w.heap.size 59 6 (.slice A na c) na (cells acc) → w'.ownsRow w.heap.size 3 1 (.slice (some ⟨g, 0, none⟩) (more.length + 1) d) (more.length + 1) (ints (m :: more).reverse) → Below w.heap.size w w' →
  runs ⟨acc, m :: more, s.data.toList.drop k, k⟩ = ps s.data.toList → X { tmps := #[.string s, undef, .slice none 0 0, .int .i64 0, .int .i64 0, .slice A na c, .slice (some ⟨g, 0, none⟩) (more.length + 1) d, .int .i64 (k : Int), (U 8), (U 9), (U 10), (U 11), (U 12), (U 13), (U 14), (U 15), (U 16), (U 17), (U 18), (U 19), (U 20), (U 21), (U 22), (U 23), (U 24), (U 25), (U 26), (U 27), (U 28), (U 29), (U 30), (U 31), (U 32), (U 33), (U 34), (U 35), (U 36), (U 37), (U 38), (U 39), (U 40), (U 41), (U 42), (U 43), (U 44), (U 45), (U 46), (U 47), (U 48), (U 49), (U 50), (U 51), (U 52), (U 53), (U 54), (U 55), (U 56), (U 57), (U 58), (U 59), (U 60), (U 61), (U 62), (U 63), (U 64), (U 65), (U 66), (U 67), (U 68), (U 69), (U 70), (U 71), (U 72), (U 73), (U 74), (U 75), (U 76), (U 77), (U 78), (U 79), (U 80), (U 81), (U 82), (U 83), (U 84), (U 85), (U 86), (U 87), (U 88), (U 89), (U 90), (U 91), (U 92), (U 93), (U 94), (U 95), (U 96), (U 97), (U 98)], defers := [] } w') : ∀ a' w', JP s w a' w' → X a' w' := by
  rintro a' w' ⟨acc, na, m, more, k, A, c, g, d, U, h1, h2, h3, h4, h5, rfl⟩
  exact h acc na m more k A c g d U w' h1 h2 h3 h4 h5
theorem JP.intro {s : ByteArray} {w : World} (acc : List No) (na : Nat) (m : Nat) (more : List Nat) (k : Nat) (A : Option Addr) (c : Nat) (g d : Nat) {u8 u9 u10 u11 u12 u13 u14 u15 u16 u17 u18 u19 u20 u21 u22 u23 u24 u25 u26 u27 u28 u29 u30 u31 u32 u33 u34 u35 u36 u37 u38 u39 u40 u41 u42 u43 u44 u45 u46 u47 u48 u49 u50 u51 u52 u53 u54 u55 u56 u57 u58 u59 u60 u61 u62 u63 u64 u65 u66 u67 u68 u69 u70 u71 u72 u73 u74 u75 u76 u77 u78 u79 u80 u81 u82 u83 u84 u85 u86 u87 u88 u89 u90 u91 u92 u93 u94 u95 u96 u97 u98 : Value} {w' : World}
  : (na = acc.length ∧ k ≤ s.size ∧ acc.length ≤ 400 ∧ more.length ≤ 25 ∧ m ≤ 3 ∧ (∀ x ∈ more, x ≤ 3)) →
  w'.ownsRow w.heap.size 59 6 (.slice A na c) na (cells acc) → w'.ownsRow w.heap.size 3 1 (.slice (some ⟨g, 0, none⟩) (more.length + 1) d) (more.length + 1) (ints (m :: more).reverse) → Below w.heap.size w w' →
  runs ⟨acc, m :: more, s.data.toList.drop k, k⟩ = ps s.data.toList → JP s w { tmps := #[.string s, undef, .slice none 0 0, .int .i64 0, .int .i64 0, .slice A na c, .slice (some ⟨g, 0, none⟩) (more.length + 1) d, .int .i64 (k : Int), u8, u9, u10, u11, u12, u13, u14, u15, u16, u17, u18, u19, u20, u21, u22, u23, u24, u25, u26, u27, u28, u29, u30, u31, u32, u33, u34, u35, u36, u37, u38, u39, u40, u41, u42, u43, u44, u45, u46, u47, u48, u49, u50, u51, u52, u53, u54, u55, u56, u57, u58, u59, u60, u61, u62, u63, u64, u65, u66, u67, u68, u69, u70, u71, u72, u73, u74, u75, u76, u77, u78, u79, u80, u81, u82, u83, u84, u85, u86, u87, u88, u89, u90, u91, u92, u93, u94, u95, u96, u97, u98], defers := [] } w' :=
  fun h1 h2 h3 h4 h5 => ⟨acc, na, m, more, k, A, c, g, d, fun i => (#[undef, undef, undef, undef, undef, undef, undef, undef, u8, u9, u10, u11, u12, u13, u14, u15, u16, u17, u18, u19, u20, u21, u22, u23, u24, u25, u26, u27, u28, u29, u30, u31, u32, u33, u34, u35, u36, u37, u38, u39, u40, u41, u42, u43, u44, u45, u46, u47, u48, u49, u50, u51, u52, u53, u54, u55, u56, u57, u58, u59, u60, u61, u62, u63, u64, u65, u66, u67, u68, u69, u70, u71, u72, u73, u74, u75, u76, u77, u78, u79, u80, u81, u82, u83, u84, u85, u86, u87, u88, u89, u90, u91, u92, u93, u94, u95, u96, u97, u98] : Array Value).getD i undef, h1, h2, h3, h4, h5, rfl⟩
def muP (s : ByteArray) (a : Act) (_ : World) : Nat := s.size - (intOf (a.tmps.getD 7 undef)).toNat
theorem six_news (W : World) (n : No) (ty : TypeId) (b : Nat) (hb : b = W.heap.size) : ∀ j u, (ncl n)[j]? = some u → (W.alloc (.cells #[.int .i64 n.o, .int .i64 n.v.k, .int .i64 n.v.n, .string (tx n.v.s), .int .i64 n.v.x, .int .i64 n.v.y] ty)).cell? ((⟨b, 0, none⟩ : Addr).add j) = some u := by
  intro j u hu
  subst hb
  have e : (⟨W.heap.size, 0, none⟩ : Addr).add j = ⟨W.heap.size, j, none⟩ := by
    unfold Addr.add
    split
    · rename_i h; subst h; rfl
    · simp
  rw [e]
  exact (Blk.made W ty (ncl n) rfl).c j u hu
theorem one_at (W : World) (v : Value) (ty : TypeId) (b : Nat) (hb : b = W.heap.size) : ∀ j u, [v][j]? = some u → (W.alloc (.cells #[v] ty)).cell? ((⟨b, 0, none⟩ : Addr).add j) = some u := by
  subst hb; exact one_news W v ty
set_option maxRecDepth 100000 in
set_option maxHeartbeats 4000000 in
theorem parse_any (s : ByteArray) (w : World) (hk : KN w) (hs : s.size ≤ 4096) : Calls Tryz.prog 17 #[.string s] w (PP (ps s.data.toList) w) := by
  have hps : ps s.data.toList = runs ⟨[], [1], s.data.toList, 0⟩ := by
    unfold ps
    rw [if_neg (by simp; omega)]
  have HPS := Lib.hid hps
  have HK := Lib.hid hk
  clear hps hk
  go_enter Tryz.func17, Tryz.ntmps17
  go_wp2_with (fail)
  refine wp_scope_once 0 (JP s w) (muP s) rfl (fun NX => ?_) ?_
  · go_wp2_with (fail)
    go_step3
    rename_i hK
    exact hK _ _ (NX.out _ _ (JP.intro [] 0 1 [] 0 none 0 w.heap.size 1 ⟨rfl, Nat.zero_le _, Nat.zero_le _, Nat.zero_le _, by omega, by simp⟩ (World.ownsRow_nil _ _ _ _) (World.ownsRow_lit w #[.int .i64 1] 1 (Nat.le_refl _) (by decide) rfl) (box1 w _) (by rw [List.drop_zero]; exact HPS.out.symm)))
  · refine JP.elim ?_
    intro acc na m more k A c g d U wr hall hL hM hb hr
    obtain rfl := hall.1
    have hk := hall.2.1; have ha := hall.2.2.1; have hmr := hall.2.2.2.1; have hm3 := hall.2.2.2.2.1
    have HMORE := Lib.hid hall.2.2.2.2.2
    obtain ⟨b, hbl⟩ : ∃ b, bl (s.data.toList.drop k) = b := ⟨_, rfl⟩
    have hkb : k + b ≤ s.size := by
      have := bl_le (s.data.toList.drop k)
      rw [List.length_drop, hbl] at this
      have e : s.data.toList.length = s.size := by simp
      omega
    have HBL := Lib.hid (fun w => blanks_any (s.extract k s.size) w (by simp; omega))
    rw [ext_list, hbl] at HBL
    have HRUN := Lib.hid hr
    have HL := Lib.hid hL; have HM := Lib.hid hM; have HB := Lib.hid hb
    clear hr hL hM hb HPS hall
    have HD := Lib.hid (own_cap HM.out)
    have cM : wr.cell? ⟨g, more.length, none⟩ = some (.int .i64 (m : Int)) := by
      have := HD.out
      rw [HM.out.cellAt _ (by omega)]; exact ints_top m more
    have HBLK : Hid (bl (s.data.toList.drop k) = b) := hbl
    clear hbl
    by_cases hm : 0 < m
    · obtain ⟨m', rfl⟩ : ∃ m', m = m' + 1 := ⟨m - 1, by omega⟩
      have HC := Lib.hid (fun w hk => part_any (s.extract (k + b) s.size) acc.length more.length (by simp; omega) w hk)
      rw [ext_list] at HC
      obtain ⟨q, hq⟩ : ∃ q, cp (s.data.toList.drop (k + b)) acc.length more.length = q := ⟨_, rfl⟩
      rw [hq] at HC
      have hz : k + b + q.2.1 ≤ s.size := by
        have := cp_size (s.data.toList.drop (k + b)) acc.length more.length
        rw [hq, List.length_drop] at this
        have e : s.data.toList.length = s.size := by simp
        omega
      have HQ := Lib.hid hq; clear hq
      obtain ⟨nn, z, e⟩ := q
      dsimp only at hz
      go_wp2_with (fail)
      refine (HBL.out _).mono ?_
      rintro e' w' ⟨rfl, rfl⟩
      go_wp2_with (fail)
      refine (HC.out _ (HK.out.next HB.out)).mono ?_
      rintro e' w1 ⟨rfl, hb⟩
      have HB1 := Lib.hid (Below.next HB.out hb)
      have HL1 := Lib.hid (own_old HL.out hb)
      have HM1 := Lib.hid (own_old HM.out hb)
      have cM1 : w1.cell? ⟨g, more.length, none⟩ = some (.int .i64 ((m' + 1 : Nat) : Int)) := (hb.cell (p := ⟨g, more.length, none⟩) (block_lt_of_cell cM)).trans cM
      clear hb HC HBL HM HL cM
      unfold cpv nov
      by_cases he : e = 0
      · subst he
        obtain ⟨hrn, hw24, hb400, hz1, _, ho⟩ := cp_ok HQ.out
        have HRN : Hid (runs ⟨acc ++ [nn], push nn m' more, s.data.toList.drop (k + b + z), k + b + z⟩ = ps s.data.toList) := (runs_ok_part HBLK.out hm HQ.out).symm.trans HRUN.out
        clear HRUN HQ hm hrn
        obtain ⟨o, vv⟩ := nn
        dsimp only at ho ⊢
        obtain ⟨i, rfl⟩ : ∃ i : Nat, o = (i : Int) := ⟨o.toNat, by omega⟩
        have hi : i < 30 := by omega
        clear ho
        obtain ⟨i0, hi0, hi1, hi2, hi3⟩ := info_parts infoN
        have HI0 := Lib.hid hi0; have HI1 := Lib.hid hi1; have HI2 := Lib.hid hi2; have HI3 := Lib.hid hi3
        clear hi0 hi1 hi2 hi3
        have hws := HB1.out.size
        go_wp2_with (at_builtin; refine wpList_append_own _ rfl _ _ 32 rfl w.heap.size 59 i0 (nov nz) 6 56 Tryz.underlying32 HI0.out HI1.out HI2.out HI3.out rfl (by decide) _ _ _ rfl ((HL1.out.alloc _).alloc _) ⟨w1.heap.size + 1, 0, none⟩ 1 1 (ncl ⟨(i : Int), vv⟩) rfl rfl (six_news _ _ _ _ (by simp)) (ncl_one _) ?c3 ?c4 ?c5 ?_)
        case c3 => unfold maxLen; omega
        case c4 => omega
        case c5 => simp; omega
        intro v' w3 hown' hgrow _
        have hL3 : w3.ownsRow w.heap.size 59 6 v' (acc.length + 1) (cells (acc ++ [⟨(i : Int), vv⟩])) := by rw [cells_snoc]; exact hown'
        obtain ⟨A', c', rfl⟩ := own_slice hL3
        have hM2 := (HM1.out.alloc (.cells #[.int .i64 (i : Int), .int .i64 vv.k, .int .i64 vv.n, .string (tx vv.s), .int .i64 vv.x, .int .i64 vv.y] 59)).alloc (.cells #[.int .i64 (i : Int), .int .i64 vv.k, .int .i64 vv.n, .string (tx vv.s), .int .i64 vv.x, .int .i64 vv.y] 59)
        have hM3 := hM2.kept hgrow (own_ne hM2 ((HL1.out.alloc (.cells #[.int .i64 (i : Int), .int .i64 vv.k, .int .i64 vv.n, .string (tx vv.s), .int .i64 vv.x, .int .i64 vv.y] 59)).alloc (.cells #[.int .i64 (i : Int), .int .i64 vv.k, .int .i64 vv.n, .string (tx vv.s), .int .i64 vv.x, .int .i64 vv.y] 59)) (by decide))
        have hbx : w3.cell? ⟨w1.heap.size, 0, none⟩ = some (.int .i64 (i : Int)) := cell_grown hgrow (by simp) (fun e => by
          have := HL1.out.lt w1.heap.size e.symm
          omega)
        have HB3 : Hid (Below w.heap.size w w3) := ((HB1.out.alloc hws _).alloc (by simp; omega) _).grown hgrow (by simp; omega) (fun g e => (HL1.out.lt g e).1)
        have hgl := HM1.out.lt g rfl
        have hne1 : ¬ g = w1.heap.size := by omega
        have hne2 : ¬ w1.heap.size = g := by omega
        have hg0 : ¬ g = 0 := by have := HK.out.lt.1; omega
        have hg1 : ¬ 0 = g := fun e => hg0 e.symm
        have cM3 : w3.cell? ⟨g, more.length, none⟩ = some (.int .i64 ((m' + 1 : Nat) : Int)) := by
          rw [hM3.cellAt _ (by omega)]; exact ints_top _ _
        have fM3 := hM3.frozenAt more.length
        have cK3 := (HK.out.next HB3.out).parts i hi
        rw [Nat.mul_comm] at cK3
        have HST := Lib.hid (hM3.stored more.length (.int .i64 (m' : Int)))
        have HL3 := Lib.hid hL3
        have HM3 := Lib.hid hM3
        have HPA : Hid (pa (i : Int) = ptl[i]!) := pa_at hi
        have hp3 : ptl[i]! ≤ 3 := by rw [← HPA.out]; exact pa_le _
        generalize ptl[i]! = p at *
        clear hL3 hM2 hM3 hown' hgrow cM1 HI0 HI1 HI2 HI3 HM1 HL1
        have HL4 := Lib.hid (HL3.out.kept HST.out.2 (own_ne HL3.out HM3.out (by decide)))
        have HM4 : Hid ((w3.setCell ⟨g, more.length, none⟩ (.int .i64 (m' : Int))).ownsRow w.heap.size 3 1 (.slice (some ⟨g, 0, none⟩) (more.length + 1) d) (more.length + 1) (ints (m' :: more).reverse)) := by
          have := HST.out.1
          rw [ints_set] at this
          exact this
        have HB4 : Hid (Below w.heap.size w (w3.setCell ⟨g, more.length, none⟩ (.int .i64 (m' : Int)))) := HB3.out.setCell (p := ⟨g, more.length, none⟩) hgl.1 _
        clear HST HL3 HM3 HB3
        by_cases hp : p = 0
        · subst hp
          have HR : Hid (runs ⟨acc ++ [⟨(i : Int), vv⟩], m' :: more, s.data.toList.drop (k + b + z), k + b + z⟩ = ps s.data.toList) := by
            have e : push ⟨(i : Int), vv⟩ m' more = m' :: more := by
              unfold push
              rw [if_neg (by show ¬ 0 < pa (i : Int); rw [HPA.out]; omega)]
            have := HRN.out
            rw [e] at this
            exact this
          clear HRN
          go_wp2_with (fail)
          go_step3
          refine ⟨rfl, JP.intro _ _ m' more (k + b + z) A' c' g d ⟨by simp, hz, by simp; omega, hmr, by omega, HMORE.out⟩ HL4.out HM4.out HB4.out HR.out, ?_⟩
          simp [muP, intOf]; omega
        · have hp0 : (0 : Int) < (p : Int) := by omega
          have HR : Hid (runs ⟨acc ++ [⟨(i : Int), vv⟩], p :: m' :: more, s.data.toList.drop (k + b + z), k + b + z⟩ = ps s.data.toList) := by
            have e : push ⟨(i : Int), vv⟩ m' more = p :: m' :: more := by
              unfold push
              rw [if_pos (by show 0 < pa (i : Int); rw [HPA.out]; omega)]
              show pa (i : Int) :: _ = _
              rw [HPA.out]
            have := HRN.out
            rw [e] at this
            exact this
          clear HRN hp
          obtain ⟨j0, hj0, hj1, hj2, hj3⟩ := info_parts infoI
          have HJ0 := Lib.hid hj0; have HJ1 := Lib.hid hj1; have HJ2 := Lib.hid hj2; have HJ3 := Lib.hid hj3
          clear hj0 hj1 hj2 hj3
          have hz3 : w.heap.size ≤ w3.heap.size := by have := HB4.out.size; simpa using this
          go_wp2_with (at_builtin; refine wpList_append_own _ rfl _ _ 62 rfl w.heap.size 3 j0 (.int .i64 0) 1 8 Tryz.underlying62 HJ0.out HJ1.out HJ2.out HJ3.out rfl (by decide) _ _ _ rfl (HM4.out.alloc _) ⟨w3.heap.size, 0, none⟩ 1 1 [.int .i64 (p : Int)] rfl rfl (one_at _ _ _ _ (by simp)) (one_one rfl) ?d3 ?d4 ?d5 ?_)
          case d3 => unfold maxLen; omega
          case d4 => omega
          case d5 => simp; omega
          intro v'' w5 hown5 hgrow5 _
          have hM5 : w5.ownsRow w.heap.size 3 1 v'' (more.length + 1 + 1) (ints (p :: m' :: more).reverse) := by rw [← ints_push, List.reverse_cons]; exact hown5
          obtain ⟨g5, d5, rfl, _, _⟩ := hM5.form (by omega)
          have hL5 := (HL4.out.alloc (.cells #[.int .i64 (p : Int)] 3)).kept hgrow5 (own_ne (HL4.out.alloc (.cells #[.int .i64 (p : Int)] 3)) (HM4.out.alloc (.cells #[.int .i64 (p : Int)] 3)) (by decide))
          have HL5 := Lib.hid hL5
          have HM5 := Lib.hid hM5
          have HB5 : Hid (Below w.heap.size w w5) := (HB4.out.alloc HB4.out.size _).grown hgrow5 (by simp; omega) (fun g e => (HM4.out.lt g e).1)
          clear hL5 hM5 hown5 hgrow5 HL4 HM4 HB4 HJ0 HJ1 HJ2 HJ3
          go_wp2_with (fail)
          go_step3
          refine ⟨rfl, JP.intro _ _ p (m' :: more) (k + b + z) A' c' g5 d5 ⟨by simp, hz, by simp; omega, by simp; omega, hp3, fun x hx => ?_⟩ HL5.out HM5.out HB5.out HR.out, ?_⟩
          · rcases List.mem_cons.1 hx with rfl | hx
            · omega
            · exact HMORE.out x hx
          · simp [muP, intOf]; omega
      · have hev : ((e : Int) != 0) = true := by rw [bne_iff_ne]; omega
        have HE : Hid (ps s.data.toList = ([], k + b + z, e)) := HRUN.out.symm.trans (runs_bad_part HBLK.out hm HQ.out he)
        clear HRUN HQ he cM1
        go_wp2_with (fail)
        simp only [Exit.jump]
        go_ret3
        rw [HE.out]
        exact ⟨none, 0, rfl, World.ownsRow_nil _ _ _ _, HB1.out.alloc HB1.out.size _⟩
    · obtain rfl : m = 0 := by omega
      clear hm
      cases more with
      | cons m2 more =>
        have HS := Lib.hid (fun w => shuts_any (s.extract (k + b) s.size) w (by simp; omega))
        rw [ext_list] at HS
        obtain ⟨e, hq⟩ : ∃ e, sh (s.data.toList.drop (k + b)) = e := ⟨_, rfl⟩
        rw [hq] at HS
        have HQ := Lib.hid hq; clear hq
        have hpos : (0 : Int) < (more.length : Int) + 1 := by omega
        have hmr2 : more.length ≤ 24 := by simp at hmr; omega
        have cM2 : wr.cell? ⟨g, more.length + 1, none⟩ = some (.int .i64 0) := cM
        clear cM hmr
        go_wp2_with (fail)
        refine (HBL.out _).mono ?_
        rintro e' w' ⟨rfl, rfl⟩
        go_wp2_with (fail)
        refine (HS.out _).mono ?_
        rintro e' w' ⟨rfl, rfl⟩
        by_cases he : e = 0
        · subst he
          obtain ⟨u, hu⟩ := sh_ok HQ.out
          have hk1 : k + b + 1 ≤ s.size := by
            have := congrArg List.length hu
            rw [List.length_drop, List.length_cons] at this
            have e : s.data.toList.length = s.size := by simp
            omega
          have HR := Lib.hid ((runs_ok_shut HBLK.out (by simp) HQ.out).symm.trans HRUN.out)
          have HM2 : Hid (wr.ownsRow w.heap.size 3 1 (.slice (some ⟨g, 0, none⟩) (more.length + 1) d) (more.length + 1) (ints (m2 :: more).reverse)) := by
            have := own_take HM.out (k := (m2 :: more).length) (by simp)
            rw [ints_take] at this
            exact this
          have hd2 : more.length + 1 ≤ d := by have := HD.out.1; simp at this; omega
          clear HRUN HQ hu u HM cM2
          go_wp2_with (fail)
          go_step3
          refine ⟨rfl, JP.intro acc _ m2 more (k + b + 1) A c g d ⟨rfl, hk1, ha, by omega, HMORE.out m2 (by simp), fun x hx => HMORE.out x (by simp [hx])⟩ HL.out HM2.out HB.out HR.out, ?_⟩
          simp [muP, intOf]; omega
        · have hev : ((e : Int) != 0) = true := by rw [bne_iff_ne]; omega
          have HE : Hid (ps s.data.toList = ([], k + b, e)) := HRUN.out.symm.trans (runs_bad_shut HBLK.out (by simp) HQ.out he)
          clear HRUN HQ he cM2
          go_wp2_with (fail)
          simp only [Exit.jump]
          go_ret3
          rw [HE.out]
          exact ⟨none, 0, rfl, World.ownsRow_nil _ _ _ _, HB.out⟩
      | nil =>
        have cM2 : wr.cell? ⟨g, 0, none⟩ = some (.int .i64 0) := cM
        clear cM hmr HMORE
        by_cases hlt : k + b < s.size
        · have HE : Hid (ps s.data.toList = ([], k + b, 10)) := HRUN.out.symm.trans (runs_left HBLK.out (by
            intro e
            have := congrArg List.length e
            rw [List.length_drop] at this
            have e : s.data.toList.length = s.size := by simp
            simp at this; omega))
          have hlt2 : (k : Int) + (b : Int) < (s.size : Int) := by omega
          clear HRUN hlt
          go_wp2_with (fail)
          refine (HBL.out _).mono ?_
          rintro e' w' ⟨rfl, rfl⟩
          go_wp2_with (fail)
          simp only [Exit.jump]
          go_ret3
          rw [HE.out]
          exact ⟨none, 0, rfl, World.ownsRow_nil _ _ _ _, HB.out⟩
        · have HE : Hid (ps s.data.toList = (acc, 0, 0)) := HRUN.out.symm.trans (runs_all HBLK.out (List.drop_of_length_le (by simp; omega)))
          have hlt2 : ¬ (k : Int) + (b : Int) < (s.size : Int) := by omega
          clear HRUN hlt
          go_wp2_with (fail)
          refine (HBL.out _).mono ?_
          rintro e' w' ⟨rfl, rfl⟩
          go_wp2_with (fail)
          simp only [Exit.jump]
          go_ret3
          rw [HE.out]
          exact ⟨A, c, rfl, HL.out, HB.out⟩
theorem parse_large (s : ByteArray) (w : World) (hs : 4096 < s.size) : Calls Tryz.prog 17 #[.string s] w (PP (ps s.data.toList) w) := by
  have HE : Hid (ps s.data.toList = ([], 0, 3)) := by show _ = _; unfold ps; rw [if_pos (by simp; omega)]
  go_enter Tryz.func17, Tryz.ntmps17
  go_wp2_with (fail)
  refine wp_scope_once 0 (fun _ _ => False) (fun _ _ => 0) rfl (fun NX => ?_) (fun _ _ h => h.elim)
  go_wp2_with (fail)
  simp only [Exit.jump]
  go_ret3
  rw [HE.out]
  exact ⟨none, 0, rfl, World.ownsRow_nil _ _ _ _, Below.refl _ _⟩
theorem eparse_any (s : ByteArray) (w : World) (hk : KN w) : Calls Tryz.prog 17 #[.string s] w (PP (ps s.data.toList) w) := by
  by_cases hs : s.size ≤ 4096
  · exact parse_any s w hk hs
  · exact parse_large s w (by omega)
end Go.Proofs.YtcdjincaedpodaaGreatDoor.Ex
/-
  What is written is read as it was, in plain mathematics.
-/
namespace Go.Proofs.YtcdjincaedpodaaGreatDoor.Ex
open Go.Proofs.YtcdjincaedpodaaGreatDoor.Ov Go.Proofs.YtcdjincaedpodaaGreatDoor.Tp Go.Proofs.YtcdjincaedpodaaGreatDoor.Ga Go.Proofs.YtcdjincaedpodaaGreatDoor.Va

/-- What may stand behind an expression. -/
def fine (u : List UInt8) : Prop := ∀ c, u.head? = some c → c = 32 ∨ c = 41
theorem fine_nil : fine [] := fun c h => by simp at h
theorem fine_cons {c : UInt8} (u : List UInt8) (h : c = 32 ∨ c = 41) : fine (c :: u) := fun d hd => by
  obtain rfl := Option.some.inj hd; exact h
theorem fine_ends (v : Va) {u : List UInt8} (h : fine u) : ends v u := fun _ => ⟨fun c hc => by rcases h c hc with rfl | rfl <;> decide, fun _ e => by
  rcases h 58 e with h | h <;> exact absurd h (by decide)⟩
theorem fine_le {u : List UInt8} (h : fine u) : ∀ c, u.head? = some c → le c = false := fun c hc => by
  rcases h c hc with rfl | rfl <;> decide
theorem runs_same {s s' : St} (h : step s = step s') : runs s = runs s' := by
  cases e : step s with
  | inr r => rw [runs_end e, runs_end (h.symm.trans e)]
  | inl x => rw [runs_go e, runs_go (h.symm.trans e)]
theorem runs_blank (a : List No) (st : List Nat) (t : List UInt8) (i : Nat) : runs ⟨a, st, 32 :: t, i⟩ = runs ⟨a, st, t, i + 1⟩ := by
  apply runs_same
  unfold step
  dsimp only
  rw [bl_blank, List.drop_succ_cons, show i + (bl t + 1) = i + 1 + bl t by omega]
theorem fl_app {w u : List UInt8} (hw : w.all le = true) (hu : ∀ c, u.head? = some c → le c = false) : fl (w ++ u) = w := by
  unfold fl
  rw [List.takeWhile_append_of_pos (by simpa using hw)]
  cases u with
  | nil => simp
  | cons c t => rw [List.takeWhile_cons, hu c rfl]; simp
theorem pz_none {c : UInt8} (t : List UInt8) (h1 : c ≠ 34) (h2 : c ≠ 45) (h3 : dg c = false) : pz (c :: t) = (vz, 0, 10) := by
  unfold pz
  rw [List.head?_cons, if_neg (fun e => h1 (Option.some.inj e)), if_neg]
  rintro (e | ⟨d, e, hd⟩)
  · exact h2 (Option.some.inj e)
  · obtain rfl := Option.some.inj e
    rw [h3] at hd; cases hd
theorem pz_head {l : List UInt8} (h : (pz l).2.2 = 0) : ∃ c t, l = c :: t ∧ c ≠ 32 ∧ c ≠ 41 ∧ c ≠ 40 := by
  cases l with
  | nil =>
    rw [show pz [] = (vz, 0, 10) by unfold pz; simp] at h
    cases h
  | cons c t =>
    refine ⟨c, t, rfl, ?_⟩
    by_cases hc : c = 32 ∨ c = 41 ∨ c = 40
    · have : pz (c :: t) = (vz, 0, 10) := by rcases hc with rfl | rfl | rfl <;> exact pz_none t (by decide) (by decide) (by decide)
      rw [this] at h; cases h
    · exact ⟨fun e => hc (.inl e), fun e => hc (.inr (.inl e)), fun e => hc (.inr (.inr e))⟩
theorem cp_head {c : UInt8} {t : List UInt8} {b w : Nat} (hb : b ≠ 400) (hw : w ≤ 24) (h1 : c ≠ 41) (h2 : c ≠ 40) : cp (c :: t) b w = cv (c :: t) := by
  unfold cp
  rw [if_neg (by simp), if_neg hb, if_neg (by omega), List.head?_cons, if_neg (fun h => h1 (Option.some.inj h.2)), if_neg (fun h => h2 (Option.some.inj h))]
/-- A value is cut off. -/
theorem cp_value {v : Va} (hv : rt v = true) {u : List UInt8} (hu : fine u) {b w : Nat} (hb : b ≠ 400) (hw : w ≤ 24) : bl (wr v ++ u) = 0 ∧ cp (wr v ++ u) b w = (⟨0, v⟩, (wr v).length, 0) := by
  have hp := pz_wr hv (fine_ends v hu)
  obtain ⟨c, t, e, h1, h2, h3⟩ := pz_head (l := wr v ++ u) (by rw [hp])
  have hcv : cv (wr v ++ u) = (⟨0, v⟩, (wr v).length, 0) := by
    unfold cv
    rw [hp]
    rfl
  rw [← hcv, e]
  exact ⟨bl_other t h1, cp_head hb hw h2 h3⟩
/-- A name is. -/
theorem cp_name {n : Int} (hn : 0 ≤ n ∧ n < 5) {u : List UInt8} (hu : fine u) {b w : Nat} (hb : b ≠ 400) (hw : w ≤ 24) : bl (nm n ++ u) = 0 ∧ cp (nm n ++ u) b w = (⟨1, nv n⟩, (nm n).length, 0) := by
  obtain ⟨i, rfl⟩ : ∃ i : Nat, n = (i : Int) := ⟨n.toNat, by omega⟩
  have hi : i < 5 := by omega
  have h1 := (nm_in hn).1
  obtain ⟨hf, hl⟩ := nf_all ⟨i, hi⟩
  change nf nml[i]! = some i at hf
  change nml[i]!.all le = true at hl
  rw [← nm_at hi] at hf hl
  have hcn : cn (nm (i : Int) ++ u) = (⟨1, nv (i : Int)⟩, (nm (i : Int)).length, 0) := by
    unfold cn
    rw [fl_app hl (fine_le hu), hf]
  obtain ⟨c, t, e⟩ : ∃ c t, nm (i : Int) = c :: t := List.exists_cons_of_ne_nil (by intro e; rw [e] at h1; simp at h1)
  have hc : le c = true := by rw [e] at hl; simp at hl; exact hl.1
  have hc' := of_decide_eq_true hc
  have h32 : c ≠ 32 := by rintro rfl; revert hc; decide
  have h41 : c ≠ 41 := by rintro rfl; revert hc; decide
  have h40 : c ≠ 40 := by rintro rfl; revert hc; decide
  have hp : pz (nm (i : Int) ++ u) = (vz, 0, 10) := by
    rw [e]
    refine pz_none _ ?_ ?_ (decide_eq_false (by omega))
    · rintro rfl; revert hc; decide
    · rintro rfl; revert hc; decide
  have hcv : cv (nm (i : Int) ++ u) = (⟨1, nv (i : Int)⟩, (nm (i : Int)).length, 0) := by
    unfold cv
    rw [hp, ← hcn]
    rfl
  rw [← hcv, e]
  exact ⟨bl_other _ h32, cp_head hb hw h41 h40⟩
/-- A bracket and a kind's word are. -/
theorem cp_kind {o : Int} (ho : 2 ≤ o ∧ o ≤ 29) {u : List UInt8} (hu : fine u) {b w : Nat} (hb : b ≠ 400) (hw : w ≤ 24) : bl (40 :: (wd o ++ u)) = 0 ∧ cp (40 :: (wd o ++ u)) b w = (⟨o, vz⟩, 1 + (wd o).length, 0) := by
  obtain ⟨i, rfl⟩ : ∃ i : Nat, o = (i : Int) := ⟨o.toNat, by omega⟩
  have hi : i < 30 := by omega
  obtain ⟨hf, hl⟩ := kf_all ⟨i, hi⟩ (by show 2 ≤ i; omega)
  change kf wdl[i]! = some i at hf
  change wdl[i]!.all le = true at hl
  rw [← wd_at hi] at hf hl
  refine ⟨bl_other _ (by decide), ?_⟩
  unfold cp
  rw [if_neg (by simp), if_neg hb, if_neg (by omega), List.head?_cons, if_neg (fun h => absurd (Option.some.inj h.2) (by decide)), if_pos rfl]
  unfold ck
  rw [List.tail_cons, fl_app hl (fine_le hu), hf]
/-- A step that reads a node. -/
theorem step_node {a : List No} {m : Nat} {more : List Nat} {t u : List UInt8} {i z : Nat} {n : No} (hb : bl t = 0) (hc : cp t a.length more.length = (n, z, 0)) (hz : t.drop z = u) :
    step ⟨a, (m + 1) :: more, t, i⟩ = .inl ⟨a ++ [n], push n m more, u, i + z⟩ := by
  unfold step
  dsimp only
  rw [hb, List.drop_zero, hc, if_pos (by omega), if_neg (fun h => h rfl)]
  dsimp only
  rw [hz]
  rfl
theorem step_shut (a : List No) (m : Nat) (more : List Nat) (u : List UInt8) (i : Nat) : step ⟨a, 0 :: m :: more, 41 :: u, i⟩ = .inl ⟨a, m :: more, u, i + 1⟩ := by
  unfold step
  dsimp only
  rw [bl_other u (show (41 : UInt8) ≠ 32 by decide), List.drop_zero, if_neg (by omega), if_pos (by simp), if_neg (fun h => h rfl)]
  rfl
theorem go_it {d : Nat} (ih : ∀ c r, ex d (c ++ r) = some r → ∀ a m more u i, fine u → more.length + d ≤ 25 → a.length + c.length ≤ 400 → runs ⟨a, (m + 1) :: more, wt d (c ++ r) ++ u, i⟩ = runs ⟨a ++ c, m :: more, u, i + (wt d (c ++ r)).length⟩) :
    ∀ k c r, it (ex d) k (c ++ r) = some r → ∀ a m more u i, fine u → more.length + d ≤ 25 → a.length + c.length ≤ 400 →
      runs ⟨a, (m + k) :: more, ts (wt d) (ex d) k (c ++ r) ++ u, i⟩ = runs ⟨a ++ c, m :: more, u, i + (ts (wt d) (ex d) k (c ++ r)).length⟩
  | 0, c, r, h, a, m, more, u, i, _, _, _ => by
    rw [it_zero] at h
    have hc : c = [] := by
      have := Option.some.inj h
      exact List.append_left_eq_self.1 this
    subst hc
    rw [List.append_nil]; rfl
  | k + 1, c, r, h, a, m, more, u, i, hu, hm, ha => by
    rw [it_succ] at h
    obtain ⟨r1, h1, h2⟩ := Option.bind_eq_some_iff.1 h
    obtain ⟨c1, e1, _, _⟩ := ex_takes d _ _ h1
    obtain ⟨c2, rfl, _, _⟩ := it_takes (ex_takes d) k _ _ h2
    rw [← List.append_assoc] at e1
    obtain rfl := List.append_cancel_right e1
    rw [List.length_append] at ha
    rw [ts_succ h1, List.append_assoc] at *
    rw [List.cons_append, runs_blank, List.append_assoc]
    have hf : fine (ts (wt d) (ex d) k (c2 ++ r) ++ u) := by
      cases k with
      | zero => exact hu
      | succ k => exact fine_cons _ (.inl rfl)
    rw [show m + (k + 1) = m + k + 1 by omega, ih c1 (c2 ++ r) h1 a (m + k) more _ (i + 1) hf hm (by omega)]
    rw [go_it ih k c2 r h2 (a ++ c1) m more u _ hu hm (by rw [List.length_append]; omega), List.append_assoc, List.length_cons, List.length_append]
    congr 2
    omega
theorem go_ex : ∀ d c r, ex d (c ++ r) = some r → ∀ a m more u i, fine u → more.length + d ≤ 25 → a.length + c.length ≤ 400 →
    runs ⟨a, (m + 1) :: more, wt d (c ++ r) ++ u, i⟩ = runs ⟨a ++ c, m :: more, u, i + (wt d (c ++ r)).length⟩
  | 0, _, _, h, _, _, _, _, _, _, _, _ => by cases h
  | d + 1, c, r, h, a, m, more, u, i, hu, hm, ha => by
    have hne : c ≠ [] := by
      obtain ⟨c', e, hn, _⟩ := ex_takes _ _ _ h
      obtain rfl := List.append_cancel_right e
      exact hn
    cases c with
    | nil => exact absurd rfl hne
    | cons n c =>
      rw [List.cons_append, ex_cons] at h
      split at h
      · rename_i hn
        rw [List.length_cons] at ha
        rw [List.cons_append, wt_cons]
        rcases rn_cases hn with ⟨h0, hv⟩ | ⟨h0, hv, hr⟩ | ⟨h0, hv⟩
        · have hp : pa n.o = 0 := rn_leaf (.inl h0)
          rw [hp, it_zero] at h
          obtain rfl : c = [] := List.append_left_eq_self.1 (Option.some.inj h)
          rw [if_pos h0]
          obtain ⟨hb, hc⟩ := cp_value hv hu (b := a.length) (w := more.length) (by omega) (by omega)
          have hnn : (⟨0, n.v⟩ : No) = n := by rw [← h0]
          rw [hnn] at hc
          rw [runs_go (step_node hb hc List.drop_left)]
          unfold push
          rw [hp, if_neg (by omega)]
        · have hp : pa n.o = 0 := rn_leaf (.inr h0)
          rw [hp, it_zero] at h
          obtain rfl : c = [] := List.append_left_eq_self.1 (Option.some.inj h)
          rw [if_neg (by omega), if_pos h0]
          obtain ⟨hb, hc⟩ := cp_name hr hu (b := a.length) (w := more.length) (by omega) (by omega)
          have hnn : (⟨1, nv n.v.n⟩ : No) = n := by rw [← h0, ← hv]
          rw [hnn] at hc
          rw [runs_go (step_node hb hc List.drop_left)]
          unfold push
          rw [hp, if_neg (by omega)]
        · have hk := kind_in h0
          rw [if_neg (by omega), if_neg (by omega)]
          have hf : fine (ts (wt d) (ex d) (pa n.o) (c ++ r) ++ (41 :: u)) := by
            obtain ⟨k, hk'⟩ : ∃ k, pa n.o = k + 1 := ⟨pa n.o - 1, by omega⟩
            rw [hk']; exact fine_cons _ (.inl rfl)
          obtain ⟨hb, hc⟩ := cp_kind h0 hf (b := a.length) (w := more.length) (by omega) (by omega)
          have hnn : (⟨n.o, vz⟩ : No) = n := by rw [← hv]
          rw [hnn] at hc
          have e : 40 :: (wd n.o ++ (ts (wt d) (ex d) (pa n.o) (c ++ r) ++ [41])) ++ u = 40 :: (wd n.o ++ (ts (wt d) (ex d) (pa n.o) (c ++ r) ++ (41 :: u))) := by simp
          have hd : (40 :: (wd n.o ++ (ts (wt d) (ex d) (pa n.o) (c ++ r) ++ (41 :: u)))).drop (1 + (wd n.o).length) = ts (wt d) (ex d) (pa n.o) (c ++ r) ++ (41 :: u) := by
            rw [Nat.add_comm, List.drop_succ_cons, List.drop_left]
          rw [e, runs_go (step_node hb hc hd)]
          unfold push
          rw [if_pos (by omega)]
          have h1 := go_it (go_ex d) (pa n.o) c r h (a ++ [n]) 0 (m :: more) (41 :: u) (i + (1 + (wd n.o).length)) (fine_cons _ (.inr rfl)) (by rw [List.length_cons]; omega) (by rw [List.length_append, List.length_singleton]; omega)
          rw [Nat.zero_add] at h1
          rw [h1, runs_go (step_shut _ _ _ _ _), List.append_assoc, List.length_cons, List.length_append, List.length_append]
          congr 2
          simp; omega
      · cases h
/-- WHAT IS WRITTEN IS READ AS IT WAS. -/
theorem ps_wt {l : List No} (h : Rt l = true) (hs : (wt 25 l).length ≤ 4096) : ps (wt 25 l) = (l, 0, 0) := by
  obtain ⟨h1, h2⟩ := Rt_in h
  have h3 := go_ex 25 l [] (by rw [List.append_nil]; exact h2) [] 0 [] [] 0 fine_nil (Nat.le_refl _) (by simpa using h1)
  rw [List.append_nil, List.append_nil, List.nil_append] at h3
  unfold ps
  rw [if_neg (by omega), h3]
  refine runs_end ?_
  unfold step
  dsimp only
  rw [if_neg (by omega), if_neg (by simp), if_neg (by simp)]
end Go.Proofs.YtcdjincaedpodaaGreatDoor.Ex
/-
  The document's example for layer 9; whether nodes are few.
-/
namespace Go.Proofs.YtcdjincaedpodaaGreatDoor.Ev
open Go.ChangeShapes Go.WideShapes Go.ChangeAt Go.RowKit Go.Proofs.YtcdjincaedpodaaGreatDoor.Ov Go.Proofs.YtcdjincaedpodaaGreatDoor.Va Go.Proofs.YtcdjincaedpodaaGreatDoor.Ga Go.Proofs.YtcdjincaedpodaaGreatDoor.Ex

/-- (each 3 (emit (text i) val)) -/
def egT : List UInt8 := [40, 101, 97, 99, 104, 32, 51, 32, 40, 101, 109, 105, 116, 32, 40, 116, 101, 120, 116, 32, 105, 41, 32, 118, 97, 108, 41, 41]
def egL : List No := [⟨28, vz⟩, ⟨0, nv 3⟩, ⟨26, vz⟩, ⟨20, vz⟩, ⟨1, nv 3⟩, ⟨1, nv 1⟩]
theorem wr_nv {n : Nat} (h : n < 10) : wr (nv n) = [UInt8.ofNat (48 + n)] := by
  rw [show nv (n : Int) = ⟨0, n, [], 0, 0⟩ from rfl, wr_int]; unfold Lib.itoa
  rw [if_neg (by omega), show ((n : Int)).toNat = n from rfl, dec_small h]
theorem eg_wt : wt 25 egL = egT := by
  have e1 : wr (nv 3) = [51] := wr_nv (n := 3) (by decide)
  have e : wt 25 egL = 40 :: ([101, 97, 99, 104] ++ ((32 :: (wr (nv 3) ++ (32 :: ((40 :: ([101, 109, 105, 116] ++ ((32 :: ((40 :: ([116, 101, 120, 116] ++ ((32 :: ([105] ++ [])) ++ [41]))) ++ (32 :: ([118, 97, 108] ++ [])))) ++ [41]))) ++ [])))) ++ [41])) := by kernel_rfl
  rw [e, e1]; rfl
theorem eg_ps : ps egT = (egL, 0, 0) := by
  rw [← eg_wt]
  exact ps_wt (by decide +kernel) (by rw [eg_wt]; decide)
theorem eg_rt : Rt egL = true := by decide +kernel
theorem eg_env : rEnv [] (nv 7) vz = true := by decide +kernel
theorem eg_nx1 : nx egL.tail = egL.drop 2 := by decide +kernel
set_option maxRecDepth 100000 in
theorem eg_step0 (S : St) (n : Nat) : ev 24 (egL.drop 2) S (n + 4) = (if 64 < (wr (nv S.i)).length then fail 3 else emitM (wr (nv S.i)) S.val) S n := by rfl
theorem eg_step {S : St} {n i : Nat} (hi : S.i = (i : Int)) (h : i < 10) (ho : S.out.length < 64) : ev 24 (egL.drop 2) S (n + 4) = .ok S.val { S with out := S.out ++ [([UInt8.ofNat (48 + i)], S.val)] } n := by
  rw [eg_step0, hi, wr_nv h, if_neg (by show ¬ 64 < 1; decide)]
  unfold emitM
  rw [if_neg (by omega), ← hi]
def egS : St := { S0 [] (nv 7) vz with out := [([48], nv 7), ([49], nv 7), ([50], nv 7)] }
theorem eg_run : rnX egL [] (nv 7) vz 100 = .ok (nv 7) egS 86 := by
  unfold rnX
  rw [if_pos ⟨eg_rt, eg_env, by decide, by decide⟩]
  have e : ev 25 egL (S0 [] (nv 7) vz) (100 : Int).toNat = withI (lp (ev 24 (nx egL.tail)) 3 0 vz) (S0 [] (nv 7) vz) 98 := rfl
  rw [e, eg_nx1]
  unfold withI
  have h : lp (ev 24 (egL.drop 2)) 3 0 vz (S0 [] (nv 7) vz) 98 = .ok (nv 7) { egS with i := 2 } 86 := by
    rw [lp_succ]
    show bnd (ev 24 (egL.drop 2)) _ { S0 [] (nv 7) vz with i := 0 } (94 + 4) = _
    rw [bnd_ok (eg_step (i := 0) rfl (by decide) (by decide)), lp_succ]
    show bnd (ev 24 (egL.drop 2)) _ { S0 [] (nv 7) vz with i := 1, out := [([48], nv 7)] } (90 + 4) = _
    rw [bnd_ok (eg_step (i := 1) rfl (by decide) (by decide)), lp_succ]
    show bnd (ev 24 (egL.drop 2)) _ { S0 [] (nv 7) vz with i := 2, out := [([48], nv 7), ([49], nv 7)] } (86 + 4) = _
    rw [bnd_ok (eg_step (i := 2) rfl (by decide) (by decide))]; rfl
  rw [h]; rfl
set_option maxRecDepth 100000 in
set_option maxHeartbeats 1000000 in
theorem eq_pair (o s : ByteArray) (a b x y : Int) (w : World) : (binOp .eql 58 (.agg #[.string o, .int .i64 a, .int .i64 b, .string s, .int .i64 x, .int .i64 y]) (.agg #[.string o, .int .i64 a, .int .i64 b, .string s, .int .i64 x, .int .i64 y])).run Tryz.prog w = .ok (.bool true) w := by
  have u := Tryz.underlying3
  have hN : Tryz.prog.underlying 58 = some (.struct (Tryz.prog.fieldsOf 58)) := by kernel_rfl
  have hS : Tryz.prog.underlying 26 = some (.struct (Tryz.prog.fieldsOf 26)) := by kernel_rfl
  have hS2 : Tryz.prog.underlying 24 = some (.struct (Tryz.prog.fieldsOf 24)) := by kernel_rfl
  have hp0 : Tryz.prog.stoodInHeld 58 = false := by kernel_rfl
  have hp : Tryz.prog.stoodInHeld 26 = false := by kernel_rfl
  have hp2 : Tryz.prog.stoodInHeld 24 = false := by kernel_rfl
  have hr := fun d xs ys w => run_equalIn_struct (P := Tryz.prog) w d 26 xs ys hS hp
  have hq := fun d xs ys w => run_equalIn_struct (P := Tryz.prog) w d 24 xs ys hS2 hp2
  rw [run_eql_struct, show (10000 : Nat) = 9999 + 1 from rfl, run_equalIn_struct w 9999 58 _ _ hN hp0]
  clear hN hS hS2 hp hp0 hp2
  simp only [Program.fieldsOf, Tryz.underlying58, Tryz.underlying26, Tryz.underlying24] at hq hr ⊢
  go_simp
set_option maxRecDepth 100000 in
set_option maxHeartbeats 2000000 in
theorem awake9_any (w : World) (hk : KN w) (ht : Tab w) : Calls Tryz.prog 8 #[] w (Gives (.bool true) w) := by
  have HP := Lib.hid (eparse_any (tx egT) w hk)
  rw [tx_list, eg_ps] at HP
  have HK := Lib.hid hk; have HT := Lib.hid ht
  clear hk ht
  go_enter Tryz.func8, Tryz.ntmps8
  go_wp2_with (fail)
  refine HP.out.mono ?_
  rintro e w1 ⟨A, c, rfl, ho, hb⟩
  have HNd : Hid (Nds w1 A egL) := Nds.of_own ho
  have HB := Lib.hid hb
  have HRU : Hid (Calls Tryz.prog 11 #[.slice A 6 c, .agg #[.string ⟨#[]⟩, .int .i64 0, .int .i64 7, .string ⟨#[]⟩, .int .i64 0, .int .i64 0, .int .i64 0, .int .i64 0, .string ⟨#[]⟩, .int .i64 0, .int .i64 0], .int .i64 100] w1 (RunQ (rnX egL [] (nv 7) vz 100) w1)) :=
    run_any egL A c [] (nv 7) vz 100 w1 HNd.out (HK.out.next hb) (HT.out.next hb) (by decide)
  rw [eg_run] at HRU
  clear hb HP ho
  go_wp2_with (fail)
  refine (HRU.out).mono ?_
  rintro e w2 ⟨hb, Ao, co, ho, rfl⟩
  have ho : w2.ownsRow w1.heap.size 58 6 (.slice Ao 3 co) 3 (pcells egS.out) := ho
  obtain ⟨g, cap, hv, _, hgl⟩ := ho.form (by omega)
  injection hv with h1 h2 h3
  subst h1
  subst h3
  clear h2
  have HB2 := Lib.hid (Below.next HB.out hb)
  have c0 : w2.cell? ⟨g, 12, none⟩ = some (.string ⟨#[50]⟩) := by rw [ho.cellAt 12 (by omega)]; rfl
  have c1 : w2.cell? ⟨g, 13, none⟩ = some (.int .i64 0) := by rw [ho.cellAt 13 (by omega)]; rfl
  have c2 : w2.cell? ⟨g, 14, none⟩ = some (.int .i64 7) := by rw [ho.cellAt 14 (by omega)]; rfl
  have c3 : w2.cell? ⟨g, 15, none⟩ = some (.string ⟨#[]⟩) := by rw [ho.cellAt 15 (by omega)]; rfl
  have c4 : w2.cell? ⟨g, 16, none⟩ = some (.int .i64 0) := by rw [ho.cellAt 16 (by omega)]; rfl
  have c5 : w2.cell? ⟨g, 17, none⟩ = some (.int .i64 0) := by rw [ho.cellAt 17 (by omega)]; rfl
  have hE := eq_pair ⟨#[50]⟩ ⟨#[]⟩ 0 7 0 0
  clear ho hb HB HRU HNd
  have hln : ((egS.out.length : Nat) : Int) = 3 := rfl
  go_wp2_with (fail)
  go_ret
  exact ⟨rfl, HB2.out.alloc HB2.out.size _⟩
/-- What Few says. -/
def FewE (l : List No) (w : World) (e : Ending) (w' : World) : Prop := ∃ b : Int, e = .returned (.int .i64 b) ∧ Below w.heap.size w w' ∧ (b = 0 ∨ b = 1 ∧ l.length < 100)
set_option maxRecDepth 100000 in
set_option maxHeartbeats 2000000 in
theorem few9_any (l : List No) (A : Option Addr) (c : Nat) (k : List UInt8) (v a : Va) (w : World) (hn : Nds w A l) : Calls Tryz.prog 9 #[.slice A l.length c, .agg #[.string (tx k), .int .i64 v.k, .int .i64 v.n, .string (tx v.s), .int .i64 v.x, .int .i64 v.y, .int .i64 a.k, .int .i64 a.n, .string (tx a.s), .int .i64 a.x, .int .i64 a.y]] w (FewE l w) := by
  have h1 : Blk (w.alloc (.cells #[.string (tx k), .int .i64 v.k, .int .i64 v.n, .string (tx v.s), .int .i64 v.x, .int .i64 v.y, .int .i64 a.k, .int .i64 a.n, .string (tx a.s), .int .i64 a.x, .int .i64 a.y] 28)) w.heap.size (ecl k v a) := Blk.made w 28 (ecl k v a) rfl
  have hb1 := box1 w (.cells #[.string (tx k), .int .i64 v.k, .int .i64 v.n, .string (tx v.s), .int .i64 v.x, .int .i64 v.y, .int .i64 a.k, .int .i64 a.n, .string (tx a.s), .int .i64 a.x, .int .i64 a.y] 28)
  have H1 := Lib.hid h1; have HB1 := Lib.hid hb1; have HN := Lib.hid (hn.next hb1)
  clear h1 hb1 hn
  go_enter Tryz.func9, Tryz.ntmps9
  go_wp2_with (fail)
  obtain ⟨w1, hw1⟩ : ∃ w1, w.alloc (.cells #[.string (tx k), .int .i64 v.k, .int .i64 v.n, .string (tx v.s), .int .i64 v.x, .int .i64 v.y, .int .i64 a.k, .int .i64 a.n, .string (tx a.s), .int .i64 a.x, .int .i64 a.y] 28) = w1 := ⟨_, rfl⟩
  rw [hw1] at H1 HB1 HN ⊢
  clear hw1
  have c0 := H1.out.c 0 _ rfl; have c3 := H1.out.c 3 _ rfl; have c8 := H1.out.c 8 _ rfl
  go_loop [5, 6] (fun t i => ∃ j q : Nat, j ≤ l.length ∧ j ≤ 100 ∧ q ≤ j * 10000 ∧ i = .int .i64 (j : Int) ∧ t = .int .i64 (q : Int)) (fun _ i => l.length - (intOf i).toNat)
  case atStart => exact ⟨0, 0, Nat.zero_le _, Nat.zero_le _, Nat.zero_le _, rfl, rfl⟩
  case round =>
    obtain ⟨j, q, hj, hj1, hq, rfl, rfl⟩ := hrel
    by_cases hlt : j < l.length ∧ j < 100
    · obtain ⟨hlt, hl1⟩ := hlt
      obtain ⟨G, O, rfl⟩ := HN.out.shape (by omega)
      have a3 := HN.out.cell hlt 3 _ rfl
      obtain ⟨s, hs⟩ : ∃ s, tx (nd l j).v.s = s := ⟨_, rfl⟩
      rw [hs] at a3
      clear hs
      obtain ⟨z, hz, hz1⟩ : ∃ z : Nat, min ((s.size : Nat) : Int) 10000 = (z : Int) ∧ z ≤ 10000 := ⟨min s.size 10000, by omega, by omega⟩
      go_wp2_with (fail)
      go_round
      case rel => exact ⟨j + 1, q + z, by omega, by omega, by omega, by go_num, by go_num⟩
      case measure => simp [intOf]; omega
    · by_cases hjl : j < l.length
      · have hj2 : ¬ ((j : Int) < 100) := by omega
        have hl2 : (100 : Int) ≤ (l.length : Int) := by omega
        go_wp2_with (fail)
        go_ret
        exact ⟨0, rfl, HB1.out, .inl rfl⟩
      · obtain rfl : j = l.length := by omega
        clear hlt hjl
        by_cases hl2 : (100 : Int) ≤ (l.length : Int)
        · go_wp2_with (fail)
          go_ret
          exact ⟨0, rfl, HB1.out, .inl rfl⟩
        by_cases hq2 : (5000 : Int) < (q : Int)
        · go_wp2_with (fail)
          go_ret
          exact ⟨0, rfl, HB1.out, .inl rfl⟩
        have hk0 := tx_size k; have hv0 := tx_size v.s; have ha0 := tx_size a.s
        obtain ⟨tk, htk⟩ : ∃ t, tx k = t := ⟨_, rfl⟩
        obtain ⟨tv, htv⟩ : ∃ t, tx v.s = t := ⟨_, rfl⟩
        obtain ⟨ta, hta⟩ : ∃ t, tx a.s = t := ⟨_, rfl⟩
        rw [htk] at c0 hk0; rw [htv] at c3 hv0; rw [hta] at c8 ha0
        rw [htk, htv, hta]
        clear htk htv hta
        by_cases hs1 : 5000 < tk.size
        · go_wp2_with (fail)
          go_ret
          exact ⟨0, rfl, HB1.out, .inl rfl⟩
        by_cases hs2 : 5000 < tv.size
        · go_wp2_with (fail)
          go_ret
          exact ⟨0, rfl, HB1.out, .inl rfl⟩
        by_cases hs3 : 5000 < ta.size
        · go_wp2_with (fail)
          go_ret
          exact ⟨0, rfl, HB1.out, .inl rfl⟩
        go_wp2_with (fail)
        go_ret
        exact ⟨1, rfl, HB1.out, .inr ⟨rfl, by omega⟩⟩
end Go.Proofs.YtcdjincaedpodaaGreatDoor.Ev
/-
  Of and Plain: lists of nodes, as the other type has them (written by gen_exlaw.py).
-/
namespace Go.Proofs.YtcdjincaedpodaaGreatDoor.Ex
open Go.ChangeShapes Go.WideShapes Go.ChangeAt Go.RowKit Go.Proofs.YtcdjincaedpodaaGreatDoor.Ov Go.Proofs.YtcdjincaedpodaaGreatDoor.Va

theorem infoR : (Tryz.prog.info? 45).map (fun i => (i.zero, i.size, i.bytes)) = some (some (nov nz), 6, 56) := by kernel_rfl
theorem take_nd {l : List No} {k : Nat} (h : k < l.length) : l.take (k + 1) = l.take k ++ [nd l k] := by rw [nd_at h, List.take_succ_eq_append_getElem h]
/-- A new list of the call's own: these nodes. -/
def MadeN (ty : TypeId) (l : List No) (w : World) (e : Ending) (w' : World) : Prop :=
  ∃ A c, e = .returned (.slice A l.length c) ∧ w'.ownsRow w.heap.size ty 6 (.slice A l.length c) l.length (cells l) ∧ Below w.heap.size w w'
theorem six_at (W : World) (n : No) (ty : TypeId) (b : Nat) (hb : b = W.heap.size) : ∀ j u, (ncl n)[j]? = some u → (W.alloc (.cells #[.int .i64 n.o, .int .i64 n.v.k, .int .i64 n.v.n, .string (tx n.v.s), .int .i64 n.v.x, .int .i64 n.v.y] ty)).cell? ((⟨b, 0, none⟩ : Addr).add j) = some u := by
  intro j u hu
  subst hb
  have e : (⟨W.heap.size, 0, none⟩ : Addr).add j = ⟨W.heap.size, j, none⟩ := by
    unfold Addr.add
    split
    · rename_i h; subst h; rfl
    · simp
  rw [e]
  exact (Blk.made W ty (ncl n) rfl).c j u hu
set_option maxRecDepth 100000 in
set_option maxHeartbeats 2000000 in
theorem of_any (l : List No) (A : Option Addr) (c : Nat) (w : World) (hn : Nds w A l) (hl : l.length ≤ 1000) : Calls Tryz.prog 10 #[.slice A l.length c] w (MadeN 59 l w) := by
  obtain ⟨i0, hi0, hi1, hi2, hi3⟩ := info_parts infoN
  have HI0 := Lib.hid hi0; have HI1 := Lib.hid hi1; have HI2 := Lib.hid hi2; have HI3 := Lib.hid hi3
  clear hi0 hi1 hi2 hi3
  have HN := Lib.hid hn; clear hn
  go_enter Tryz.func10, Tryz.ntmps10
  go_wp2_with (fail)
  go_loopw [3, 4] (fun v i wr => ∃ (k : Nat) (B : Option Addr) (d : Nat), k ≤ l.length ∧ i = .int .i64 (k : Int) ∧ v = .slice B k d ∧ wr.ownsRow w.heap.size 59 6 (.slice B k d) k (cells (l.take k)) ∧ Below w.heap.size w wr) (fun _ i _ => l.length - (intOf i).toNat)
  case atStart => exact ⟨0, none, 0, Nat.zero_le _, rfl, rfl, World.ownsRow_nil _ _ _ _, Below.refl _ _⟩
  case round =>
    obtain ⟨k, B, d, hk, rfl, rfl, ho, hb⟩ := hrel
    have HO := Lib.hid ho; have HB := Lib.hid hb
    clear ho hb
    by_cases hlt : k < l.length
    · obtain ⟨G, O, rfl⟩ := HN.out.shape (by omega)
      have HN1 := HN.out.next HB.out
      have e0 := HN1.cell hlt 0 _ rfl
      have e1 := HN1.cell hlt 1 _ rfl
      have e2 := HN1.cell hlt 2 _ rfl
      have e3 := HN1.cell hlt 3 _ rfl
      have e4 := HN1.cell hlt 4 _ rfl
      have e5 := HN1.cell hlt 5 _ rfl
      rw [Nat.add_zero] at e0
      have HT := Lib.hid (take_nd hlt)
      generalize nd l k = n at *
      clear HN1
      have hws := HB.out.size
      go_wp2_with (fail)
      go_region_law (refine step_own _ rfl (.tmp 11) (.tmp 23) 32 rfl w.heap.size 59 i0 (nov nz) 6 56 Tryz.underlying32 HI0.out HI1.out HI2.out HI3.out rfl (by decide) (.slice B k d) k (cells (l.take k)) (by simp [Act.eval]) (by exact HO.out.alloc _) ⟨wr.heap.size, 0, none⟩ 1 1 (ncl n) (by simp [Act.eval]) rfl (by exact six_at _ _ _ _ (by simp)) (ncl_one _) (by unfold maxLen; omega) (by omega) (by simp; omega) ?_
                     intro v' w4 hown' hgrow _
                     have HB4 : Hid (Below w.heap.size w w4) := ((below_drewN HB.out 1).alloc (by simpa using hws) _).grown hgrow (by simp; omega) (fun g e => (HO.out.lt g e).1)
                     have hN : w4.ownsRow w.heap.size 59 6 v' (k + 1) (cells (l.take (k + 1))) := by rw [HT.out, cells_snoc]; exact hown'
                     have HN4 := Lib.hid hN
                     clear hown' hgrow hN)
      all_goals
        obtain ⟨B4, d4, rfl⟩ := own_slice HN4.out
        go_wp2_with (fail)
        go_roundw
        case rel => exact ⟨k + 1, B4, d4, by omega, by go_num, rfl, HN4.out, HB4.out⟩
        case measure => simp [intOf]; omega
    · obtain rfl : k = l.length := by omega
      have hE : l.take l.length = l := List.take_of_length_le (Nat.le_refl _)
      have HE : Hid (wr.ownsRow w.heap.size 59 6 (.slice B l.length d) l.length (cells l)) := by
        have := HO.out
        rw [hE] at this; exact this
      clear HO hE
      go_wp2_with (fail)
      go_ret
      exact ⟨B, d, rfl, HE.out, HB.out⟩
end Go.Proofs.YtcdjincaedpodaaGreatDoor.Ex

/-
  The texts of this claim, lot 4: EvDeed1, EvDeed2, EvDeed3, EvAlike, EvReckon, VaOrder.
-/
import Derived.Test.YtcdjincaedpodaaGreatDoorLot3
import Derived.Deep.QuietTactic
import Derived.BigQuiet
/-
  Deeds of one call (written by gen_evdeed.py).
-/
namespace Go.Proofs.YtcdjincaedpodaaGreatDoor.Ev
open Go.ChangeShapes Go.WideShapes Go.ChangeAt Go.RowKit Go.Proofs.YtcdjincaedpodaaGreatDoor.Ov Go.Proofs.YtcdjincaedpodaaGreatDoor.Va Go.Proofs.YtcdjincaedpodaaGreatDoor.Ga Go.Proofs.YtcdjincaedpodaaGreatDoor.Ex

theorem tr_tri (b : Bool) : tr b = nv (tri b) := by cases b <;> rfl
theorem eql_va (a b : Va) (w : World) : (binOp .eql 26 (.agg #[.int .i64 a.k, .int .i64 a.n, .string (tx a.s), .int .i64 a.x, .int .i64 a.y]) (.agg #[.int .i64 b.k, .int .i64 b.n, .string (tx b.s), .int .i64 b.x, .int .i64 b.y])).run Tryz.prog w = .ok (.bool (decide (a = b))) w := by
  have h := eql_val a.k a.n a.x a.y b.k b.n b.x b.y (tx a.s) (tx b.s) w
  rw [tx_list, tx_list] at h
  exact h
theorem write_va {v : Va} (h : rt v = true) (w : World) (ht : Tab w) : Calls Tryz.prog 99 #[.agg #[.int .i64 v.k, .int .i64 v.n, .string (tx v.s), .int .i64 v.x, .int .i64 v.y]] w (Gives (.string (tx (wr v))) w) := by
  have g := write_yes (k := v.k) (n := v.n) (x := v.x) (y := v.y) (s := tx v.s) (by rw [tx_list]; exact h) w ht
  rw [tx_list] at g
  exact g
theorem text_yes {l : List Va} (h : (at0 l).k = 1) (S : St) (n : Nat) : af 20 l S n = .ok (at0 l) S n := by
  show lift (if (at0 l).k = 1 then .inr (at0 l) else .inr (tv (wr (at0 l)))) S n = _
  rw [if_pos h]; rfl
theorem text_no {l : List Va} (h : (at0 l).k ≠ 1) (S : St) (n : Nat) : af 20 l S n = .ok (tv (wr (at0 l))) S n := by
  show lift (if (at0 l).k = 1 then .inr (at0 l) else .inr (tv (wr (at0 l)))) S n = _
  rw [if_neg h]; rfl
set_option maxRecDepth 100000 in
set_option maxHeartbeats 1000000 in
theorem deed_size {d : Nat} (HD : DoC (ev d) d) : DeedC d 15 49 := by
  intro w0 A c E b l S n ov w k r hcx hd hg hkl ho hrn hx hd24
  have HBD : Hid (body (ev d) (nd l k) (l.drop (k + 1)) S n = bnd (prt (ev d) [1] (l.drop (k + 1))) (af 15) S n) := by show _ = _; exact congrFun (congrFun (body_prt ho (by decide) (by decide) (by decide) (by decide) (by decide) (by decide)) S) n
  have HP := Lib.hid (pre_any HD [1] (by decide) (by decide) (by decide) hcx hd hg hkl hx (by decide) hd24)
  clear hcx hd hg ho hrn hx hd24 HD
  go_enter Tryz.func49, Tryz.ntmps49
  go_wp2_with (fail)
  refine (HP.out).mono ?_
  rintro e w3 ⟨p0, p1, p2, x, S1, n1, ov1, rfl, ha, r0, r1, r2, hgd, hd3, hm3, hx3⟩
  have HA := Lib.hid ha; have R0 := Lib.hid r0; have R1 := Lib.hid r1; have R2 := Lib.hid r2; have HG := Lib.hid hgd; have HD3 := Lib.hid hd3; have HM3 := Lib.hid hm3; have HX3 := Lib.hid hx3
  have HPB : Hid (Box w0 b E ov1 w3.heap.size [.int .i64 p0.k, .int .i64 p0.n, .string (tx p0.s), .int .i64 p0.x, .int .i64 p0.y, .int .i64 p1.k, .int .i64 p1.n, .string (tx p1.s), .int .i64 p1.x, .int .i64 p1.y, .int .i64 p2.k, .int .i64 p2.n, .string (tx p2.s), .int .i64 p2.x, .int .i64 p2.y] (w3.alloc (.cells #[.int .i64 p0.k, .int .i64 p0.n, .string (tx p0.s), .int .i64 p0.x, .int .i64 p0.y, .int .i64 p1.k, .int .i64 p1.n, .string (tx p1.s), .int .i64 p1.x, .int .i64 p1.y, .int .i64 p2.k, .int .i64 p2.n, .string (tx p2.s), .int .i64 p2.x, .int .i64 p2.y] 106))) := Box.made hd3 (by omega) 106 [.int .i64 p0.k, .int .i64 p0.n, .string (tx p0.s), .int .i64 p0.x, .int .i64 p0.y, .int .i64 p1.k, .int .i64 p1.n, .string (tx p1.s), .int .i64 p1.x, .int .i64 p1.y, .int .i64 p2.k, .int .i64 p2.n, .string (tx p2.s), .int .i64 p2.x, .int .i64 p2.y]
  have hlZ := hx3.blk.lt
  clear ha r0 r1 r2 hgd hd3 hm3 hx3 HP
  go_wp2_with (fail)
  refine (enumber_any _ _).mono ?_
  rintro e w4 ⟨rfl, hb⟩
  have HD4 := Lib.hid ((HD3.out.old (box1 w3 _)).old hb); have HM4 := Lib.hid ((HM3.out.old (box1 w3 _)).old hb); have HX4 := Lib.hid ((HX3.out.old (box1 w3 _)).old hb); have HPB4 := Lib.hid (HPB.out.old hb)
  clear hb HD3 HM3 HX3 HPB 
  have c0 := HX4.out.blk.v0; have c1 := HX4.out.blk.v1; have c2 := HX4.out.blk.v2; have c3 := HX4.out.blk.v3; have c4 := HX4.out.blk.v4
  have z0 := HX4.out.blk.g0; have z1 := HX4.out.blk.g1; have z2 := HX4.out.blk.g2; have z3 := HX4.out.blk.g3; have z4 := HX4.out.blk.g4
  go_wp2_with (fail)
  have hd9 := HD4.out.all5 HX4.out (.int .i64 0) (.int .i64 ((tx p0.s).size : Int)) (.string ⟨#[]⟩) (.int .i64 0) (.int .i64 0)
  have hm9 := HM4.out.all5 (Nat.le_refl _) (.int .i64 0) (.int .i64 ((tx p0.s).size : Int)) (.string ⟨#[]⟩) (.int .i64 0) (.int .i64 0)
  have hx9 := HX4.out.all5 (.int .i64 0) (.int .i64 ((tx p0.s).size : Int)) (.string ⟨#[]⟩) (.int .i64 0) (.int .i64 0)
  clear c0 c1 c2 c3 c4 z0 z1 z2 z3 z4 HD4 HM4 HX4
  generalize (((((w4.setCell ⟨w.heap.size, 0, none⟩ (.int .i64 0)).setCell ⟨w.heap.size, 1, none⟩ (.int .i64 ((tx p0.s).size : Int))).setCell ⟨w.heap.size, 2, none⟩ (.string ⟨#[]⟩)).setCell ⟨w.heap.size, 3, none⟩ (.int .i64 0)).setCell ⟨w.heap.size, 4, none⟩ (.int .i64 0)) = w9 at *
  have c0 := hx9.blk.c 0 _ rfl; have c1 := hx9.blk.c 1 _ rfl; have c2 := hx9.blk.c 2 _ rfl; have c3 := hx9.blk.c 3 _ rfl; have c4 := hx9.blk.c 4 _ rfl
  refine bodyPost_ret (v := .tuple #[.agg #[.int .i64 0, .int .i64 ((tx p0.s).size : Int), .string ⟨#[]⟩, .int .i64 0, .int .i64 0], .int .i64 x]) (by simp [results, Tryz.results49, go_sem, c0, c1, c2, c3, c4]) rfl ⟨nv p0.s.length, x, S1, n1, ov1, by rw [tx_size]; rfl, by rw [HBD.out]; exact HA.out.bnd fun h0 a ha _ => by obtain ⟨rfl, rfl, rfl⟩ := ha; exact ⟨_, rfl, rfl⟩, hd9, hm9⟩
set_option maxRecDepth 100000 in
set_option maxHeartbeats 1000000 in
theorem deed_not {d : Nat} (HD : DoC (ev d) d) : DeedC d 10 44 := by
  intro w0 A c E b l S n ov w k r hcx hd hg hkl ho hrn hx hd24
  have HBD : Hid (body (ev d) (nd l k) (l.drop (k + 1)) S n = bnd (prt (ev d) [0] (l.drop (k + 1))) (af 10) S n) := by show _ = _; exact congrFun (congrFun (body_prt ho (by decide) (by decide) (by decide) (by decide) (by decide) (by decide)) S) n
  have HP := Lib.hid (pre_any HD [0] (by decide) (by decide) (by decide) hcx hd hg hkl hx (by decide) hd24)
  clear hcx hd hg ho hrn hx hd24 HD
  go_enter Tryz.func44, Tryz.ntmps44
  go_wp2_with (fail)
  refine (HP.out).mono ?_
  rintro e w3 ⟨p0, p1, p2, x, S1, n1, ov1, rfl, ha, r0, r1, r2, hgd, hd3, hm3, hx3⟩
  have HA := Lib.hid ha; have R0 := Lib.hid r0; have R1 := Lib.hid r1; have R2 := Lib.hid r2; have HG := Lib.hid hgd; have HD3 := Lib.hid hd3; have HM3 := Lib.hid hm3; have HX3 := Lib.hid hx3
  have HPB : Hid (Box w0 b E ov1 w3.heap.size [.int .i64 p0.k, .int .i64 p0.n, .string (tx p0.s), .int .i64 p0.x, .int .i64 p0.y, .int .i64 p1.k, .int .i64 p1.n, .string (tx p1.s), .int .i64 p1.x, .int .i64 p1.y, .int .i64 p2.k, .int .i64 p2.n, .string (tx p2.s), .int .i64 p2.x, .int .i64 p2.y] (w3.alloc (.cells #[.int .i64 p0.k, .int .i64 p0.n, .string (tx p0.s), .int .i64 p0.x, .int .i64 p0.y, .int .i64 p1.k, .int .i64 p1.n, .string (tx p1.s), .int .i64 p1.x, .int .i64 p1.y, .int .i64 p2.k, .int .i64 p2.n, .string (tx p2.s), .int .i64 p2.x, .int .i64 p2.y] 106))) := Box.made hd3 (by omega) 106 [.int .i64 p0.k, .int .i64 p0.n, .string (tx p0.s), .int .i64 p0.x, .int .i64 p0.y, .int .i64 p1.k, .int .i64 p1.n, .string (tx p1.s), .int .i64 p1.x, .int .i64 p1.y, .int .i64 p2.k, .int .i64 p2.n, .string (tx p2.s), .int .i64 p2.x, .int .i64 p2.y]
  have hlZ := hx3.blk.lt
  clear ha r0 r1 r2 hgd hd3 hm3 hx3 HP
  go_wp2_with (fail)
  refine (etruth_any _ _).mono ?_
  rintro e w4 ⟨rfl, hb⟩
  have HD4 := Lib.hid ((HD3.out.old (box1 w3 _)).old hb); have HM4 := Lib.hid ((HM3.out.old (box1 w3 _)).old hb); have HX4 := Lib.hid ((HX3.out.old (box1 w3 _)).old hb); have HPB4 := Lib.hid (HPB.out.old hb)
  clear hb HD3 HM3 HX3 HPB 
  have c0 := HX4.out.blk.v0; have c1 := HX4.out.blk.v1; have c2 := HX4.out.blk.v2; have c3 := HX4.out.blk.v3; have c4 := HX4.out.blk.v4
  have z0 := HX4.out.blk.g0; have z1 := HX4.out.blk.g1; have z2 := HX4.out.blk.g2; have z3 := HX4.out.blk.g3; have z4 := HX4.out.blk.g4
  go_wp2_with (fail)
  have hd9 := HD4.out.all5 HX4.out (.int .i64 0) (.int .i64 (tri (p0.n == 0))) (.string ⟨#[]⟩) (.int .i64 0) (.int .i64 0)
  have hm9 := HM4.out.all5 (Nat.le_refl _) (.int .i64 0) (.int .i64 (tri (p0.n == 0))) (.string ⟨#[]⟩) (.int .i64 0) (.int .i64 0)
  have hx9 := HX4.out.all5 (.int .i64 0) (.int .i64 (tri (p0.n == 0))) (.string ⟨#[]⟩) (.int .i64 0) (.int .i64 0)
  clear c0 c1 c2 c3 c4 z0 z1 z2 z3 z4 HD4 HM4 HX4
  generalize (((((w4.setCell ⟨w.heap.size, 0, none⟩ (.int .i64 0)).setCell ⟨w.heap.size, 1, none⟩ (.int .i64 (tri (p0.n == 0)))).setCell ⟨w.heap.size, 2, none⟩ (.string ⟨#[]⟩)).setCell ⟨w.heap.size, 3, none⟩ (.int .i64 0)).setCell ⟨w.heap.size, 4, none⟩ (.int .i64 0)) = w9 at *
  have c0 := hx9.blk.c 0 _ rfl; have c1 := hx9.blk.c 1 _ rfl; have c2 := hx9.blk.c 2 _ rfl; have c3 := hx9.blk.c 3 _ rfl; have c4 := hx9.blk.c 4 _ rfl
  refine bodyPost_ret (v := .tuple #[.agg #[.int .i64 0, .int .i64 (tri (p0.n == 0)), .string ⟨#[]⟩, .int .i64 0, .int .i64 0], .int .i64 x]) (by simp [results, Tryz.results44, go_sem, c0, c1, c2, c3, c4]) rfl ⟨nv (tri (p0.n == 0)), x, S1, n1, ov1, rfl, by rw [HBD.out]; exact HA.out.bnd fun h0 a ha _ => by obtain ⟨rfl, rfl, rfl⟩ := ha; exact ⟨_, rfl, (tr_tri _).symm⟩, hd9, hm9⟩
set_option maxRecDepth 100000 in
set_option maxHeartbeats 1000000 in
theorem deed_re {d : Nat} (HD : DoC (ev d) d) : DeedC d 22 56 := by
  intro w0 A c E b l S n ov w k r hcx hd hg hkl ho hrn hx hd24
  have HBD : Hid (body (ev d) (nd l k) (l.drop (k + 1)) S n = bnd (prt (ev d) [2] (l.drop (k + 1))) (af 22) S n) := by show _ = _; exact congrFun (congrFun (body_prt ho (by decide) (by decide) (by decide) (by decide) (by decide) (by decide)) S) n
  have HP := Lib.hid (pre_any HD [2] (by decide) (by decide) (by decide) hcx hd hg hkl hx (by decide) hd24)
  clear hcx hd hg ho hrn hx hd24 HD
  go_enter Tryz.func56, Tryz.ntmps56
  go_wp2_with (fail)
  refine (HP.out).mono ?_
  rintro e w3 ⟨p0, p1, p2, x, S1, n1, ov1, rfl, ha, r0, r1, r2, hgd, hd3, hm3, hx3⟩
  have HA := Lib.hid ha; have R0 := Lib.hid r0; have R1 := Lib.hid r1; have R2 := Lib.hid r2; have HG := Lib.hid hgd; have HD3 := Lib.hid hd3; have HM3 := Lib.hid hm3; have HX3 := Lib.hid hx3
  have HPB : Hid (Box w0 b E ov1 w3.heap.size [.int .i64 p0.k, .int .i64 p0.n, .string (tx p0.s), .int .i64 p0.x, .int .i64 p0.y, .int .i64 p1.k, .int .i64 p1.n, .string (tx p1.s), .int .i64 p1.x, .int .i64 p1.y, .int .i64 p2.k, .int .i64 p2.n, .string (tx p2.s), .int .i64 p2.x, .int .i64 p2.y] (w3.alloc (.cells #[.int .i64 p0.k, .int .i64 p0.n, .string (tx p0.s), .int .i64 p0.x, .int .i64 p0.y, .int .i64 p1.k, .int .i64 p1.n, .string (tx p1.s), .int .i64 p1.x, .int .i64 p1.y, .int .i64 p2.k, .int .i64 p2.n, .string (tx p2.s), .int .i64 p2.x, .int .i64 p2.y] 106))) := Box.made hd3 (by omega) 106 [.int .i64 p0.k, .int .i64 p0.n, .string (tx p0.s), .int .i64 p0.x, .int .i64 p0.y, .int .i64 p1.k, .int .i64 p1.n, .string (tx p1.s), .int .i64 p1.x, .int .i64 p1.y, .int .i64 p2.k, .int .i64 p2.n, .string (tx p2.s), .int .i64 p2.x, .int .i64 p2.y]
  have hlZ := hx3.blk.lt
  clear ha r0 r1 r2 hgd hd3 hm3 hx3 HP
  go_wp2_with (fail)
  refine (enumber_any _ _).mono ?_
  rintro e w4 ⟨rfl, hb⟩
  have HD4 := Lib.hid ((HD3.out.old (box1 w3 _)).old hb); have HM4 := Lib.hid ((HM3.out.old (box1 w3 _)).old hb); have HX4 := Lib.hid ((HX3.out.old (box1 w3 _)).old hb); have HPB4 := Lib.hid (HPB.out.old hb)
  clear hb HD3 HM3 HX3 HPB 
  have c0 := HX4.out.blk.v0; have c1 := HX4.out.blk.v1; have c2 := HX4.out.blk.v2; have c3 := HX4.out.blk.v3; have c4 := HX4.out.blk.v4
  have z0 := HX4.out.blk.g0; have z1 := HX4.out.blk.g1; have z2 := HX4.out.blk.g2; have z3 := HX4.out.blk.g3; have z4 := HX4.out.blk.g4
  go_wp2_with (fail)
  have hd9 := HD4.out.all5 HX4.out (.int .i64 0) (.int .i64 p0.x) (.string ⟨#[]⟩) (.int .i64 0) (.int .i64 0)
  have hm9 := HM4.out.all5 (Nat.le_refl _) (.int .i64 0) (.int .i64 p0.x) (.string ⟨#[]⟩) (.int .i64 0) (.int .i64 0)
  have hx9 := HX4.out.all5 (.int .i64 0) (.int .i64 p0.x) (.string ⟨#[]⟩) (.int .i64 0) (.int .i64 0)
  clear c0 c1 c2 c3 c4 z0 z1 z2 z3 z4 HD4 HM4 HX4
  generalize (((((w4.setCell ⟨w.heap.size, 0, none⟩ (.int .i64 0)).setCell ⟨w.heap.size, 1, none⟩ (.int .i64 p0.x)).setCell ⟨w.heap.size, 2, none⟩ (.string ⟨#[]⟩)).setCell ⟨w.heap.size, 3, none⟩ (.int .i64 0)).setCell ⟨w.heap.size, 4, none⟩ (.int .i64 0)) = w9 at *
  have c0 := hx9.blk.c 0 _ rfl; have c1 := hx9.blk.c 1 _ rfl; have c2 := hx9.blk.c 2 _ rfl; have c3 := hx9.blk.c 3 _ rfl; have c4 := hx9.blk.c 4 _ rfl
  refine bodyPost_ret (v := .tuple #[.agg #[.int .i64 0, .int .i64 p0.x, .string ⟨#[]⟩, .int .i64 0, .int .i64 0], .int .i64 x]) (by simp [results, Tryz.results56, go_sem, c0, c1, c2, c3, c4]) rfl ⟨nv p0.x, x, S1, n1, ov1, rfl, by rw [HBD.out]; exact HA.out.bnd fun h0 a ha _ => by obtain ⟨rfl, rfl, rfl⟩ := ha; exact ⟨_, rfl, rfl⟩, hd9, hm9⟩
set_option maxRecDepth 100000 in
set_option maxHeartbeats 1000000 in
theorem deed_im {d : Nat} (HD : DoC (ev d) d) : DeedC d 23 57 := by
  intro w0 A c E b l S n ov w k r hcx hd hg hkl ho hrn hx hd24
  have HBD : Hid (body (ev d) (nd l k) (l.drop (k + 1)) S n = bnd (prt (ev d) [2] (l.drop (k + 1))) (af 23) S n) := by show _ = _; exact congrFun (congrFun (body_prt ho (by decide) (by decide) (by decide) (by decide) (by decide) (by decide)) S) n
  have HP := Lib.hid (pre_any HD [2] (by decide) (by decide) (by decide) hcx hd hg hkl hx (by decide) hd24)
  clear hcx hd hg ho hrn hx hd24 HD
  go_enter Tryz.func57, Tryz.ntmps57
  go_wp2_with (fail)
  refine (HP.out).mono ?_
  rintro e w3 ⟨p0, p1, p2, x, S1, n1, ov1, rfl, ha, r0, r1, r2, hgd, hd3, hm3, hx3⟩
  have HA := Lib.hid ha; have R0 := Lib.hid r0; have R1 := Lib.hid r1; have R2 := Lib.hid r2; have HG := Lib.hid hgd; have HD3 := Lib.hid hd3; have HM3 := Lib.hid hm3; have HX3 := Lib.hid hx3
  have HPB : Hid (Box w0 b E ov1 w3.heap.size [.int .i64 p0.k, .int .i64 p0.n, .string (tx p0.s), .int .i64 p0.x, .int .i64 p0.y, .int .i64 p1.k, .int .i64 p1.n, .string (tx p1.s), .int .i64 p1.x, .int .i64 p1.y, .int .i64 p2.k, .int .i64 p2.n, .string (tx p2.s), .int .i64 p2.x, .int .i64 p2.y] (w3.alloc (.cells #[.int .i64 p0.k, .int .i64 p0.n, .string (tx p0.s), .int .i64 p0.x, .int .i64 p0.y, .int .i64 p1.k, .int .i64 p1.n, .string (tx p1.s), .int .i64 p1.x, .int .i64 p1.y, .int .i64 p2.k, .int .i64 p2.n, .string (tx p2.s), .int .i64 p2.x, .int .i64 p2.y] 106))) := Box.made hd3 (by omega) 106 [.int .i64 p0.k, .int .i64 p0.n, .string (tx p0.s), .int .i64 p0.x, .int .i64 p0.y, .int .i64 p1.k, .int .i64 p1.n, .string (tx p1.s), .int .i64 p1.x, .int .i64 p1.y, .int .i64 p2.k, .int .i64 p2.n, .string (tx p2.s), .int .i64 p2.x, .int .i64 p2.y]
  have hlZ := hx3.blk.lt
  clear ha r0 r1 r2 hgd hd3 hm3 hx3 HP
  go_wp2_with (fail)
  refine (enumber_any _ _).mono ?_
  rintro e w4 ⟨rfl, hb⟩
  have HD4 := Lib.hid ((HD3.out.old (box1 w3 _)).old hb); have HM4 := Lib.hid ((HM3.out.old (box1 w3 _)).old hb); have HX4 := Lib.hid ((HX3.out.old (box1 w3 _)).old hb); have HPB4 := Lib.hid (HPB.out.old hb)
  clear hb HD3 HM3 HX3 HPB 
  have c0 := HX4.out.blk.v0; have c1 := HX4.out.blk.v1; have c2 := HX4.out.blk.v2; have c3 := HX4.out.blk.v3; have c4 := HX4.out.blk.v4
  have z0 := HX4.out.blk.g0; have z1 := HX4.out.blk.g1; have z2 := HX4.out.blk.g2; have z3 := HX4.out.blk.g3; have z4 := HX4.out.blk.g4
  go_wp2_with (fail)
  have hd9 := HD4.out.all5 HX4.out (.int .i64 0) (.int .i64 p0.y) (.string ⟨#[]⟩) (.int .i64 0) (.int .i64 0)
  have hm9 := HM4.out.all5 (Nat.le_refl _) (.int .i64 0) (.int .i64 p0.y) (.string ⟨#[]⟩) (.int .i64 0) (.int .i64 0)
  have hx9 := HX4.out.all5 (.int .i64 0) (.int .i64 p0.y) (.string ⟨#[]⟩) (.int .i64 0) (.int .i64 0)
  clear c0 c1 c2 c3 c4 z0 z1 z2 z3 z4 HD4 HM4 HX4
  generalize (((((w4.setCell ⟨w.heap.size, 0, none⟩ (.int .i64 0)).setCell ⟨w.heap.size, 1, none⟩ (.int .i64 p0.y)).setCell ⟨w.heap.size, 2, none⟩ (.string ⟨#[]⟩)).setCell ⟨w.heap.size, 3, none⟩ (.int .i64 0)).setCell ⟨w.heap.size, 4, none⟩ (.int .i64 0)) = w9 at *
  have c0 := hx9.blk.c 0 _ rfl; have c1 := hx9.blk.c 1 _ rfl; have c2 := hx9.blk.c 2 _ rfl; have c3 := hx9.blk.c 3 _ rfl; have c4 := hx9.blk.c 4 _ rfl
  refine bodyPost_ret (v := .tuple #[.agg #[.int .i64 0, .int .i64 p0.y, .string ⟨#[]⟩, .int .i64 0, .int .i64 0], .int .i64 x]) (by simp [results, Tryz.results57, go_sem, c0, c1, c2, c3, c4]) rfl ⟨nv p0.y, x, S1, n1, ov1, rfl, by rw [HBD.out]; exact HA.out.bnd fun h0 a ha _ => by obtain ⟨rfl, rfl, rfl⟩ := ha; exact ⟨_, rfl, rfl⟩, hd9, hm9⟩
set_option maxRecDepth 100000 in
set_option maxHeartbeats 1000000 in
theorem deed_same {d : Nat} (HD : DoC (ev d) d) : DeedC d 9 43 := by
  intro w0 A c E b l S n ov w k r hcx hd hg hkl ho hrn hx hd24
  have HBD : Hid (body (ev d) (nd l k) (l.drop (k + 1)) S n = bnd (prt (ev d) [-1, -1] (l.drop (k + 1))) (af 9) S n) := by show _ = _; exact congrFun (congrFun (body_prt ho (by decide) (by decide) (by decide) (by decide) (by decide) (by decide)) S) n
  have HP := Lib.hid (pre_any HD [-1, -1] (by decide) (by decide) (by decide) hcx hd hg hkl hx (by decide) hd24)
  clear hcx hd hg ho hrn hx hd24 HD
  go_enter Tryz.func43, Tryz.ntmps43
  go_wp2_with (fail)
  refine (HP.out).mono ?_
  rintro e w3 ⟨p0, p1, p2, x, S1, n1, ov1, rfl, ha, r0, r1, r2, hgd, hd3, hm3, hx3⟩
  have HA := Lib.hid ha; have R0 := Lib.hid r0; have R1 := Lib.hid r1; have R2 := Lib.hid r2; have HG := Lib.hid hgd; have HD3 := Lib.hid hd3; have HM3 := Lib.hid hm3; have HX3 := Lib.hid hx3
  have HPB : Hid (Box w0 b E ov1 w3.heap.size [.int .i64 p0.k, .int .i64 p0.n, .string (tx p0.s), .int .i64 p0.x, .int .i64 p0.y, .int .i64 p1.k, .int .i64 p1.n, .string (tx p1.s), .int .i64 p1.x, .int .i64 p1.y, .int .i64 p2.k, .int .i64 p2.n, .string (tx p2.s), .int .i64 p2.x, .int .i64 p2.y] (w3.alloc (.cells #[.int .i64 p0.k, .int .i64 p0.n, .string (tx p0.s), .int .i64 p0.x, .int .i64 p0.y, .int .i64 p1.k, .int .i64 p1.n, .string (tx p1.s), .int .i64 p1.x, .int .i64 p1.y, .int .i64 p2.k, .int .i64 p2.n, .string (tx p2.s), .int .i64 p2.x, .int .i64 p2.y] 106))) := Box.made hd3 (by omega) 106 [.int .i64 p0.k, .int .i64 p0.n, .string (tx p0.s), .int .i64 p0.x, .int .i64 p0.y, .int .i64 p1.k, .int .i64 p1.n, .string (tx p1.s), .int .i64 p1.x, .int .i64 p1.y, .int .i64 p2.k, .int .i64 p2.n, .string (tx p2.s), .int .i64 p2.x, .int .i64 p2.y]
  have hlZ := hx3.blk.lt
  clear ha r0 r1 r2 hgd hd3 hm3 hx3 HP
  have heq : ∀ W, (binOp .eql 26 (.agg #[.int .i64 p0.k, .int .i64 p0.n, .string (tx p0.s), .int .i64 p0.x, .int .i64 p0.y]) (.agg #[.int .i64 p1.k, .int .i64 p1.n, .string (tx p1.s), .int .i64 p1.x, .int .i64 p1.y])).run Tryz.prog W = .ok (.bool (decide (p0 = p1))) W := fun W => eql_va p0 p1 W
  go_wp2_with (fail)
  refine (etruth_any _ _).mono ?_
  rintro e w4 ⟨rfl, hb⟩
  have HD4 := Lib.hid ((HD3.out.old (box1 w3 _)).old hb); have HM4 := Lib.hid ((HM3.out.old (box1 w3 _)).old hb); have HX4 := Lib.hid ((HX3.out.old (box1 w3 _)).old hb); have HPB4 := Lib.hid (HPB.out.old hb)
  clear heq
  clear hb HD3 HM3 HX3 HPB 
  have c0 := HX4.out.blk.v0; have c1 := HX4.out.blk.v1; have c2 := HX4.out.blk.v2; have c3 := HX4.out.blk.v3; have c4 := HX4.out.blk.v4
  have z0 := HX4.out.blk.g0; have z1 := HX4.out.blk.g1; have z2 := HX4.out.blk.g2; have z3 := HX4.out.blk.g3; have z4 := HX4.out.blk.g4
  go_wp2_with (fail)
  have hd9 := HD4.out.all5 HX4.out (.int .i64 0) (.int .i64 (tri (decide (p0 = p1)))) (.string ⟨#[]⟩) (.int .i64 0) (.int .i64 0)
  have hm9 := HM4.out.all5 (Nat.le_refl _) (.int .i64 0) (.int .i64 (tri (decide (p0 = p1)))) (.string ⟨#[]⟩) (.int .i64 0) (.int .i64 0)
  have hx9 := HX4.out.all5 (.int .i64 0) (.int .i64 (tri (decide (p0 = p1)))) (.string ⟨#[]⟩) (.int .i64 0) (.int .i64 0)
  clear c0 c1 c2 c3 c4 z0 z1 z2 z3 z4 HD4 HM4 HX4
  generalize (((((w4.setCell ⟨w.heap.size, 0, none⟩ (.int .i64 0)).setCell ⟨w.heap.size, 1, none⟩ (.int .i64 (tri (decide (p0 = p1))))).setCell ⟨w.heap.size, 2, none⟩ (.string ⟨#[]⟩)).setCell ⟨w.heap.size, 3, none⟩ (.int .i64 0)).setCell ⟨w.heap.size, 4, none⟩ (.int .i64 0)) = w9 at *
  have c0 := hx9.blk.c 0 _ rfl; have c1 := hx9.blk.c 1 _ rfl; have c2 := hx9.blk.c 2 _ rfl; have c3 := hx9.blk.c 3 _ rfl; have c4 := hx9.blk.c 4 _ rfl
  refine bodyPost_ret (v := .tuple #[.agg #[.int .i64 0, .int .i64 (tri (decide (p0 = p1))), .string ⟨#[]⟩, .int .i64 0, .int .i64 0], .int .i64 x]) (by simp [results, Tryz.results43, go_sem, c0, c1, c2, c3, c4]) rfl ⟨nv (tri (decide (p0 = p1))), x, S1, n1, ov1, rfl, by rw [HBD.out]; exact HA.out.bnd fun h0 a ha _ => by obtain ⟨rfl, rfl, rfl⟩ := ha; exact ⟨_, rfl, (tr_tri _).symm⟩, hd9, hm9⟩
set_option maxRecDepth 100000 in
set_option maxHeartbeats 1000000 in
theorem deed_then {d : Nat} (HD : DoC (ev d) d) : DeedC d 27 61 := by
  intro w0 A c E b l S n ov w k r hcx hd hg hkl ho hrn hx hd24
  have HBD : Hid (body (ev d) (nd l k) (l.drop (k + 1)) S n = bnd (prt (ev d) [-1, -1] (l.drop (k + 1))) (af 27) S n) := by show _ = _; exact congrFun (congrFun (body_prt ho (by decide) (by decide) (by decide) (by decide) (by decide) (by decide)) S) n
  have HP := Lib.hid (pre_any HD [-1, -1] (by decide) (by decide) (by decide) hcx hd hg hkl hx (by decide) hd24)
  clear hcx hd hg ho hrn hx hd24 HD
  go_enter Tryz.func61, Tryz.ntmps61
  go_wp2_with (fail)
  refine (HP.out).mono ?_
  rintro e w3 ⟨p0, p1, p2, x, S1, n1, ov1, rfl, ha, r0, r1, r2, hgd, hd3, hm3, hx3⟩
  have HA := Lib.hid ha; have R0 := Lib.hid r0; have R1 := Lib.hid r1; have R2 := Lib.hid r2; have HG := Lib.hid hgd; have HD3 := Lib.hid hd3; have HM3 := Lib.hid hm3; have HX3 := Lib.hid hx3
  have HPB : Hid (Box w0 b E ov1 w3.heap.size [.int .i64 p0.k, .int .i64 p0.n, .string (tx p0.s), .int .i64 p0.x, .int .i64 p0.y, .int .i64 p1.k, .int .i64 p1.n, .string (tx p1.s), .int .i64 p1.x, .int .i64 p1.y, .int .i64 p2.k, .int .i64 p2.n, .string (tx p2.s), .int .i64 p2.x, .int .i64 p2.y] (w3.alloc (.cells #[.int .i64 p0.k, .int .i64 p0.n, .string (tx p0.s), .int .i64 p0.x, .int .i64 p0.y, .int .i64 p1.k, .int .i64 p1.n, .string (tx p1.s), .int .i64 p1.x, .int .i64 p1.y, .int .i64 p2.k, .int .i64 p2.n, .string (tx p2.s), .int .i64 p2.x, .int .i64 p2.y] 106))) := Box.made hd3 (by omega) 106 [.int .i64 p0.k, .int .i64 p0.n, .string (tx p0.s), .int .i64 p0.x, .int .i64 p0.y, .int .i64 p1.k, .int .i64 p1.n, .string (tx p1.s), .int .i64 p1.x, .int .i64 p1.y, .int .i64 p2.k, .int .i64 p2.n, .string (tx p2.s), .int .i64 p2.x, .int .i64 p2.y]
  have hlZ := hx3.blk.lt
  clear ha r0 r1 r2 hgd hd3 hm3 hx3 HP
  have c0 := HX3.out.blk.v0; have c1 := HX3.out.blk.v1; have c2 := HX3.out.blk.v2; have c3 := HX3.out.blk.v3; have c4 := HX3.out.blk.v4
  have z0 := HX3.out.blk.g0; have z1 := HX3.out.blk.g1; have z2 := HX3.out.blk.g2; have z3 := HX3.out.blk.g3; have z4 := HX3.out.blk.g4
  go_wp2_with (fail)
  have hd9 := (HD3.out.all5 HX3.out (.int .i64 p1.k) (.int .i64 p1.n) (.string (tx p1.s)) (.int .i64 p1.x) (.int .i64 p1.y)).old (box1 _ (.cells #[.int .i64 p0.k, .int .i64 p0.n, .string (tx p0.s), .int .i64 p0.x, .int .i64 p0.y, .int .i64 p1.k, .int .i64 p1.n, .string (tx p1.s), .int .i64 p1.x, .int .i64 p1.y, .int .i64 p2.k, .int .i64 p2.n, .string (tx p2.s), .int .i64 p2.x, .int .i64 p2.y] 106))
  have hm9 := (HM3.out.all5 (Nat.le_refl _) (.int .i64 p1.k) (.int .i64 p1.n) (.string (tx p1.s)) (.int .i64 p1.x) (.int .i64 p1.y)).old (box1 _ (.cells #[.int .i64 p0.k, .int .i64 p0.n, .string (tx p0.s), .int .i64 p0.x, .int .i64 p0.y, .int .i64 p1.k, .int .i64 p1.n, .string (tx p1.s), .int .i64 p1.x, .int .i64 p1.y, .int .i64 p2.k, .int .i64 p2.n, .string (tx p2.s), .int .i64 p2.x, .int .i64 p2.y] 106))
  have hx9 := (HX3.out.all5 (.int .i64 p1.k) (.int .i64 p1.n) (.string (tx p1.s)) (.int .i64 p1.x) (.int .i64 p1.y)).old (box1 _ (.cells #[.int .i64 p0.k, .int .i64 p0.n, .string (tx p0.s), .int .i64 p0.x, .int .i64 p0.y, .int .i64 p1.k, .int .i64 p1.n, .string (tx p1.s), .int .i64 p1.x, .int .i64 p1.y, .int .i64 p2.k, .int .i64 p2.n, .string (tx p2.s), .int .i64 p2.x, .int .i64 p2.y] 106))
  clear c0 c1 c2 c3 c4 z0 z1 z2 z3 z4 HD3 HM3 HX3
  generalize (((((w3.setCell ⟨w.heap.size, 0, none⟩ (.int .i64 p1.k)).setCell ⟨w.heap.size, 1, none⟩ (.int .i64 p1.n)).setCell ⟨w.heap.size, 2, none⟩ (.string (tx p1.s))).setCell ⟨w.heap.size, 3, none⟩ (.int .i64 p1.x)).setCell ⟨w.heap.size, 4, none⟩ (.int .i64 p1.y)).alloc (.cells #[.int .i64 p0.k, .int .i64 p0.n, .string (tx p0.s), .int .i64 p0.x, .int .i64 p0.y, .int .i64 p1.k, .int .i64 p1.n, .string (tx p1.s), .int .i64 p1.x, .int .i64 p1.y, .int .i64 p2.k, .int .i64 p2.n, .string (tx p2.s), .int .i64 p2.x, .int .i64 p2.y] 106) = w9 at *
  have c0 := hx9.blk.c 0 _ rfl; have c1 := hx9.blk.c 1 _ rfl; have c2 := hx9.blk.c 2 _ rfl; have c3 := hx9.blk.c 3 _ rfl; have c4 := hx9.blk.c 4 _ rfl
  refine bodyPost_ret (v := .tuple #[.agg #[.int .i64 p1.k, .int .i64 p1.n, .string (tx p1.s), .int .i64 p1.x, .int .i64 p1.y], .int .i64 x]) (by simp [results, Tryz.results61, go_sem, c0, c1, c2, c3, c4]) rfl ⟨p1, x, S1, n1, ov1, rfl, by rw [HBD.out]; exact HA.out.bnd fun h0 a ha _ => by obtain ⟨rfl, rfl, rfl⟩ := ha; exact ⟨_, rfl, rfl⟩, hd9, hm9⟩
set_option maxRecDepth 100000 in
set_option maxHeartbeats 1000000 in
theorem deed_text {d : Nat} (HD : DoC (ev d) d) : DeedC d 20 54 := by
  intro w0 A c E b l S n ov w k r hcx hd hg hkl ho hrn hx hd24
  have HBD : Hid (body (ev d) (nd l k) (l.drop (k + 1)) S n = bnd (prt (ev d) [-1] (l.drop (k + 1))) (af 20) S n) := by show _ = _; exact congrFun (congrFun (body_prt ho (by decide) (by decide) (by decide) (by decide) (by decide) (by decide)) S) n
  have HP := Lib.hid (pre_any HD [-1] (by decide) (by decide) (by decide) hcx hd hg hkl hx (by decide) hd24)
  have HT := Lib.hid hcx.tab
  clear hcx hd hg ho hrn hx hd24 HD
  go_enter Tryz.func54, Tryz.ntmps54
  go_wp2_with (fail)
  refine (HP.out).mono ?_
  rintro e w3 ⟨p0, p1, p2, x, S1, n1, ov1, rfl, ha, r0, r1, r2, hgd, hd3, hm3, hx3⟩
  have HA := Lib.hid ha; have R0 := Lib.hid r0; have R1 := Lib.hid r1; have R2 := Lib.hid r2; have HG := Lib.hid hgd; have HD3 := Lib.hid hd3; have HM3 := Lib.hid hm3; have HX3 := Lib.hid hx3
  have HPB : Hid (Box w0 b E ov1 w3.heap.size [.int .i64 p0.k, .int .i64 p0.n, .string (tx p0.s), .int .i64 p0.x, .int .i64 p0.y, .int .i64 p1.k, .int .i64 p1.n, .string (tx p1.s), .int .i64 p1.x, .int .i64 p1.y, .int .i64 p2.k, .int .i64 p2.n, .string (tx p2.s), .int .i64 p2.x, .int .i64 p2.y] (w3.alloc (.cells #[.int .i64 p0.k, .int .i64 p0.n, .string (tx p0.s), .int .i64 p0.x, .int .i64 p0.y, .int .i64 p1.k, .int .i64 p1.n, .string (tx p1.s), .int .i64 p1.x, .int .i64 p1.y, .int .i64 p2.k, .int .i64 p2.n, .string (tx p2.s), .int .i64 p2.x, .int .i64 p2.y] 106))) := Box.made hd3 (by omega) 106 [.int .i64 p0.k, .int .i64 p0.n, .string (tx p0.s), .int .i64 p0.x, .int .i64 p0.y, .int .i64 p1.k, .int .i64 p1.n, .string (tx p1.s), .int .i64 p1.x, .int .i64 p1.y, .int .i64 p2.k, .int .i64 p2.n, .string (tx p2.s), .int .i64 p2.x, .int .i64 p2.y]
  have hlZ := hx3.blk.lt
  clear ha r0 r1 r2 hgd hd3 hm3 hx3 HP
  by_cases hk : p0.k = 1
  · have hk1 : (p0.k == 1) = true := by simpa using hk
    have HK := Lib.hid hk; clear hk
    have c0 := HX3.out.blk.v0; have c1 := HX3.out.blk.v1; have c2 := HX3.out.blk.v2; have c3 := HX3.out.blk.v3; have c4 := HX3.out.blk.v4
    have z0 := HX3.out.blk.g0; have z1 := HX3.out.blk.g1; have z2 := HX3.out.blk.g2; have z3 := HX3.out.blk.g3; have z4 := HX3.out.blk.g4
    go_wp2_with (fail)
    have hd9 := (HD3.out.all5 HX3.out (.int .i64 p0.k) (.int .i64 p0.n) (.string (tx p0.s)) (.int .i64 p0.x) (.int .i64 p0.y)).old (box1 _ (.cells #[.int .i64 p0.k, .int .i64 p0.n, .string (tx p0.s), .int .i64 p0.x, .int .i64 p0.y, .int .i64 p1.k, .int .i64 p1.n, .string (tx p1.s), .int .i64 p1.x, .int .i64 p1.y, .int .i64 p2.k, .int .i64 p2.n, .string (tx p2.s), .int .i64 p2.x, .int .i64 p2.y] 106))
    have hm9 := (HM3.out.all5 (Nat.le_refl _) (.int .i64 p0.k) (.int .i64 p0.n) (.string (tx p0.s)) (.int .i64 p0.x) (.int .i64 p0.y)).old (box1 _ (.cells #[.int .i64 p0.k, .int .i64 p0.n, .string (tx p0.s), .int .i64 p0.x, .int .i64 p0.y, .int .i64 p1.k, .int .i64 p1.n, .string (tx p1.s), .int .i64 p1.x, .int .i64 p1.y, .int .i64 p2.k, .int .i64 p2.n, .string (tx p2.s), .int .i64 p2.x, .int .i64 p2.y] 106))
    have hx9 := (HX3.out.all5 (.int .i64 p0.k) (.int .i64 p0.n) (.string (tx p0.s)) (.int .i64 p0.x) (.int .i64 p0.y)).old (box1 _ (.cells #[.int .i64 p0.k, .int .i64 p0.n, .string (tx p0.s), .int .i64 p0.x, .int .i64 p0.y, .int .i64 p1.k, .int .i64 p1.n, .string (tx p1.s), .int .i64 p1.x, .int .i64 p1.y, .int .i64 p2.k, .int .i64 p2.n, .string (tx p2.s), .int .i64 p2.x, .int .i64 p2.y] 106))
    clear c0 c1 c2 c3 c4 z0 z1 z2 z3 z4 HD3 HM3 HX3
    generalize (((((w3.setCell ⟨w.heap.size, 0, none⟩ (.int .i64 p0.k)).setCell ⟨w.heap.size, 1, none⟩ (.int .i64 p0.n)).setCell ⟨w.heap.size, 2, none⟩ (.string (tx p0.s))).setCell ⟨w.heap.size, 3, none⟩ (.int .i64 p0.x)).setCell ⟨w.heap.size, 4, none⟩ (.int .i64 p0.y)).alloc (.cells #[.int .i64 p0.k, .int .i64 p0.n, .string (tx p0.s), .int .i64 p0.x, .int .i64 p0.y, .int .i64 p1.k, .int .i64 p1.n, .string (tx p1.s), .int .i64 p1.x, .int .i64 p1.y, .int .i64 p2.k, .int .i64 p2.n, .string (tx p2.s), .int .i64 p2.x, .int .i64 p2.y] 106) = w9 at *
    have c0 := hx9.blk.c 0 _ rfl; have c1 := hx9.blk.c 1 _ rfl; have c2 := hx9.blk.c 2 _ rfl; have c3 := hx9.blk.c 3 _ rfl; have c4 := hx9.blk.c 4 _ rfl
    refine bodyPost_ret (v := .tuple #[.agg #[.int .i64 p0.k, .int .i64 p0.n, .string (tx p0.s), .int .i64 p0.x, .int .i64 p0.y], .int .i64 x]) (by simp [results, Tryz.results54, go_sem, c0, c1, c2, c3, c4]) rfl ⟨p0, x, S1, n1, ov1, rfl, by rw [HBD.out]; exact HA.out.bnd fun h0 a ha _ => by obtain ⟨rfl, rfl, rfl⟩ := ha; exact ⟨at0 a, text_yes HK.out _ _, rfl⟩, hd9, hm9⟩
  · have hk1 : (p0.k == 1) = false := by simpa using hk
    have HK := Lib.hid hk; clear hk
    have HW := Lib.hid (fun W hT => write_va (v := p0) R0.out W hT)
    go_wp2_with (fail)
    refine (HW.out _ (HT.out.next (HD3.out.old (box1 w3 _)).fro)).mono ?_
    rintro e w4 ⟨rfl, hb⟩
    have HD4 := Lib.hid ((HD3.out.old (box1 w3 _)).old hb); have HM4 := Lib.hid ((HM3.out.old (box1 w3 _)).old hb); have HX4 := Lib.hid ((HX3.out.old (box1 w3 _)).old hb); have HPB4 := Lib.hid (HPB.out.old hb)
    clear hb HD3 HM3 HX3 HPB 
    have c0 := HX4.out.blk.v0; have c1 := HX4.out.blk.v1; have c2 := HX4.out.blk.v2; have c3 := HX4.out.blk.v3; have c4 := HX4.out.blk.v4
    have z0 := HX4.out.blk.g0; have z1 := HX4.out.blk.g1; have z2 := HX4.out.blk.g2; have z3 := HX4.out.blk.g3; have z4 := HX4.out.blk.g4
    go_wp2_with (fail)
    refine (etext_any _ _).mono ?_
    rintro e w5 ⟨rfl, hb⟩
    have HD5 := Lib.hid (HD4.out.old hb); have HM5 := Lib.hid (HM4.out.old hb); have HX5 := Lib.hid (HX4.out.old hb); have HPB5 := Lib.hid (HPB4.out.old hb)
    clear hb HD4 HM4 HX4 HPB4 c0 c1 c2 c3 c4 z0 z1 z2 z3 z4
    have c0 := HX5.out.blk.v0; have c1 := HX5.out.blk.v1; have c2 := HX5.out.blk.v2; have c3 := HX5.out.blk.v3; have c4 := HX5.out.blk.v4
    have z0 := HX5.out.blk.g0; have z1 := HX5.out.blk.g1; have z2 := HX5.out.blk.g2; have z3 := HX5.out.blk.g3; have z4 := HX5.out.blk.g4
    go_wp2_with (fail)
    have hd9 := HD5.out.all5 HX5.out (.int .i64 1) (.int .i64 0) (.string (tx (wr p0))) (.int .i64 0) (.int .i64 0)
    have hm9 := HM5.out.all5 (Nat.le_refl _) (.int .i64 1) (.int .i64 0) (.string (tx (wr p0))) (.int .i64 0) (.int .i64 0)
    have hx9 := HX5.out.all5 (.int .i64 1) (.int .i64 0) (.string (tx (wr p0))) (.int .i64 0) (.int .i64 0)
    clear c0 c1 c2 c3 c4 z0 z1 z2 z3 z4 HD5 HM5 HX5
    generalize (((((w5.setCell ⟨w.heap.size, 0, none⟩ (.int .i64 1)).setCell ⟨w.heap.size, 1, none⟩ (.int .i64 0)).setCell ⟨w.heap.size, 2, none⟩ (.string (tx (wr p0)))).setCell ⟨w.heap.size, 3, none⟩ (.int .i64 0)).setCell ⟨w.heap.size, 4, none⟩ (.int .i64 0)) = w9 at *
    have c0 := hx9.blk.c 0 _ rfl; have c1 := hx9.blk.c 1 _ rfl; have c2 := hx9.blk.c 2 _ rfl; have c3 := hx9.blk.c 3 _ rfl; have c4 := hx9.blk.c 4 _ rfl
    refine bodyPost_ret (v := .tuple #[.agg #[.int .i64 1, .int .i64 0, .string (tx (wr p0)), .int .i64 0, .int .i64 0], .int .i64 x]) (by simp [results, Tryz.results54, go_sem, c0, c1, c2, c3, c4]) rfl ⟨tv (wr p0), x, S1, n1, ov1, rfl, by rw [HBD.out]; exact HA.out.bnd fun h0 a ha _ => by obtain ⟨rfl, rfl, rfl⟩ := ha; exact ⟨_, text_no HK.out _ _, rfl⟩, hd9, hm9⟩
end Go.Proofs.YtcdjincaedpodaaGreatDoor.Ev
/-
  Deeds that look at errors first (written by gen_evdeed.py).
-/
namespace Go.Proofs.YtcdjincaedpodaaGreatDoor.Ev
open Go.ChangeShapes Go.WideShapes Go.ChangeAt Go.RowKit Go.Proofs.YtcdjincaedpodaaGreatDoor.Ov Go.Proofs.YtcdjincaedpodaaGreatDoor.Va Go.Proofs.YtcdjincaedpodaaGreatDoor.Ga Go.Proofs.YtcdjincaedpodaaGreatDoor.Ex

theorem cat_big {l : List Va} (h : 4096 < (at0 l).s.length + (at1 l).s.length) (S : St) (n : Nat) : af 14 l S n = .er 3 := by
  show lift (if 4096 < (at0 l).s.length + (at1 l).s.length then .inl 3 else .inr (tv ((at0 l).s ++ (at1 l).s))) S n = _
  rw [if_pos h]; rfl
theorem cat_ok {l : List Va} (h : ¬ 4096 < (at0 l).s.length + (at1 l).s.length) (S : St) (n : Nat) : af 14 l S n = .ok (tv ((at0 l).s ++ (at1 l).s)) S n := by
  show lift (if 4096 < (at0 l).s.length + (at1 l).s.length then .inl 3 else .inr (tv ((at0 l).s ++ (at1 l).s))) S n = _
  rw [if_neg h]; rfl
theorem ifv_er {k n x y e : Int} {s : ByteArray} (h : e ≠ 0) : ifv k n s x y e = .tuple #[.agg #[.int .i64 0, .int .i64 0, .string ⟨#[]⟩, .int .i64 0, .int .i64 0], .int .i64 e] := if_neg h
theorem ifv_ok {k n x y : Int} {s : ByteArray} (h : rt ⟨k, n, s.data.toList, x, y⟩ = true) : ifv k n s x y 0 = .tuple #[.agg #[.int .i64 k, .int .i64 n, .string s, .int .i64 x, .int .i64 y], .int .i64 0] := by unfold ifv; rw [if_pos rfl, if_pos h]
theorem ifv_no {k n x y : Int} {s : ByteArray} (h : rt ⟨k, n, s.data.toList, x, y⟩ = false) : ifv k n s x y 0 = .tuple #[.agg #[.int .i64 0, .int .i64 0, .string ⟨#[]⟩, .int .i64 0, .int .i64 0], .int .i64 14] := by unfold ifv; rw [if_pos rfl, if_neg (by rw [h]; decide)]
theorem chk_ok {l : List Va} (h : rt (pv (at0 l).n (at1 l).n) = true) (S : St) (n : Nat) : af 21 l S n = .ok (pv (at0 l).n (at1 l).n) S n := by
  show lift (if rt (pv (at0 l).n (at1 l).n) = true then .inr (pv (at0 l).n (at1 l).n) else .inl 14) S n = _
  rw [if_pos h]; rfl
theorem chk_no {l : List Va} (h : rt (pv (at0 l).n (at1 l).n) = false) (S : St) (n : Nat) : af 21 l S n = .er 14 := by
  show lift (if rt (pv (at0 l).n (at1 l).n) = true then .inr (pv (at0 l).n (at1 l).n) else .inl 14) S n = _
  rw [if_neg (by rw [h]; decide)]; rfl
theorem neg_int {l : List Va} (h : (at0 l).k = 0) (S : St) (n : Nat) : af 7 l S n = .ok (nv (-(at0 l).n)) S n := by
  show lift (if (at0 l).k = 0 then .inr (nv (-(at0 l).n)) else if (at0 l).k = 2 then .inr (pv (-(at0 l).x) (-(at0 l).y)) else .inl 13) S n = _
  rw [if_pos h]; rfl
theorem neg_point {l : List Va} (h : (at0 l).k = 2) (S : St) (n : Nat) : af 7 l S n = .ok (pv (-(at0 l).x) (-(at0 l).y)) S n := by
  show lift (if (at0 l).k = 0 then .inr (nv (-(at0 l).n)) else if (at0 l).k = 2 then .inr (pv (-(at0 l).x) (-(at0 l).y)) else .inl 13) S n = _
  rw [if_neg (by omega), if_pos h]; rfl
theorem neg_no {l : List Va} (h : (at0 l).k ≠ 0) (h2 : (at0 l).k ≠ 2) (S : St) (n : Nat) : af 7 l S n = .er 13 := by
  show lift (if (at0 l).k = 0 then .inr (nv (-(at0 l).n)) else if (at0 l).k = 2 then .inr (pv (-(at0 l).x) (-(at0 l).y)) else .inl 13) S n = _
  rw [if_neg h, if_neg h2]; rfl
theorem sub_right {x y : Int} (h1 : -16777216 ≤ x) (h2 : x ≤ 16777216) (h3 : -16777216 ≤ y) (h4 : y ≤ 16777216) : ans (rb ⟨0, 0⟩ && rb ⟨x, y⟩ && rb (Pt.sub ⟨0, 0⟩ ⟨x, y⟩)) (Pt.sub ⟨0, 0⟩ ⟨x, y⟩) = .tuple #[.agg #[.int .i64 (-x), .int .i64 (-y)], .int .i64 0] := by
  have e : Pt.sub ⟨0, 0⟩ ⟨x, y⟩ = ⟨-x, -y⟩ := Pt.ext (by show 0 - x = -x; omega) (by show 0 - y = -y; omega)
  rw [e, show rb ⟨0, 0⟩ = true from rfl, rb_of (a := ⟨x, y⟩) (by dsimp only; omega), rb_of (a := ⟨-x, -y⟩) (by dsimp only; omega)]; rfl
set_option maxRecDepth 100000 in
set_option maxHeartbeats 1000000 in
theorem deed_cat {d : Nat} (HD : DoC (ev d) d) : DeedC d 14 48 := by
  intro w0 A c E b l S n ov w k r hcx hd hg hkl ho hrn hx hd24
  have HBD : Hid (body (ev d) (nd l k) (l.drop (k + 1)) S n = bnd (prt (ev d) [1, 1] (l.drop (k + 1))) (af 14) S n) := by show _ = _; exact congrFun (congrFun (body_prt ho (by decide) (by decide) (by decide) (by decide) (by decide) (by decide)) S) n
  have HP := Lib.hid (pre_any HD [1, 1] (by decide) (by decide) (by decide) hcx hd hg hkl hx (by decide) hd24)
  clear hcx hd hg ho hrn hx hd24 HD
  go_enter Tryz.func48, Tryz.ntmps48
  go_wp2_with (fail)
  refine (HP.out).mono ?_
  rintro e w3 ⟨p0, p1, p2, x, S1, n1, ov1, rfl, ha, r0, r1, r2, hgd, hd3, hm3, hx3⟩
  have HA := Lib.hid ha; have R0 := Lib.hid r0; have R1 := Lib.hid r1; have R2 := Lib.hid r2; have HG := Lib.hid hgd; have HD3 := Lib.hid hd3; have HM3 := Lib.hid hm3; have HX3 := Lib.hid hx3
  have HPB : Hid (Box w0 b E ov1 w3.heap.size [.int .i64 p0.k, .int .i64 p0.n, .string (tx p0.s), .int .i64 p0.x, .int .i64 p0.y, .int .i64 p1.k, .int .i64 p1.n, .string (tx p1.s), .int .i64 p1.x, .int .i64 p1.y, .int .i64 p2.k, .int .i64 p2.n, .string (tx p2.s), .int .i64 p2.x, .int .i64 p2.y] (w3.alloc (.cells #[.int .i64 p0.k, .int .i64 p0.n, .string (tx p0.s), .int .i64 p0.x, .int .i64 p0.y, .int .i64 p1.k, .int .i64 p1.n, .string (tx p1.s), .int .i64 p1.x, .int .i64 p1.y, .int .i64 p2.k, .int .i64 p2.n, .string (tx p2.s), .int .i64 p2.x, .int .i64 p2.y] 106))) := Box.made hd3 (by omega) 106 [.int .i64 p0.k, .int .i64 p0.n, .string (tx p0.s), .int .i64 p0.x, .int .i64 p0.y, .int .i64 p1.k, .int .i64 p1.n, .string (tx p1.s), .int .i64 p1.x, .int .i64 p1.y, .int .i64 p2.k, .int .i64 p2.n, .string (tx p2.s), .int .i64 p2.x, .int .i64 p2.y]
  have hlZ := hx3.blk.lt
  clear ha r0 r1 r2 hgd hd3 hm3 hx3 HP
  rcases HA.out.cases with ⟨hx0, hX⟩ | ⟨rfl, a, ha, hX⟩
  · have HX0 := Lib.hid hx0; have HXX := Lib.hid hX
    have hx1 : (x == 0) = false := by simpa using hx0
    have hx2 : (x != 0) = true := by simpa using hx0
    clear hx0 hX HA 
    have c0 := HX3.out.blk.v0; have c1 := HX3.out.blk.v1; have c2 := HX3.out.blk.v2; have c3 := HX3.out.blk.v3; have c4 := HX3.out.blk.v4
    have z0 := HX3.out.blk.g0; have z1 := HX3.out.blk.g1; have z2 := HX3.out.blk.g2; have z3 := HX3.out.blk.g3; have z4 := HX3.out.blk.g4
    go_wp2_with (fail)
    have hd9 := (HD3.out.all5 HX3.out (.int .i64 0) (.int .i64 0) (.string ⟨#[]⟩) (.int .i64 0) (.int .i64 0)).old (box1 _ (.cells #[.int .i64 p0.k, .int .i64 p0.n, .string (tx p0.s), .int .i64 p0.x, .int .i64 p0.y, .int .i64 p1.k, .int .i64 p1.n, .string (tx p1.s), .int .i64 p1.x, .int .i64 p1.y, .int .i64 p2.k, .int .i64 p2.n, .string (tx p2.s), .int .i64 p2.x, .int .i64 p2.y] 106))
    have hm9 := (HM3.out.all5 (Nat.le_refl _) (.int .i64 0) (.int .i64 0) (.string ⟨#[]⟩) (.int .i64 0) (.int .i64 0)).old (box1 _ (.cells #[.int .i64 p0.k, .int .i64 p0.n, .string (tx p0.s), .int .i64 p0.x, .int .i64 p0.y, .int .i64 p1.k, .int .i64 p1.n, .string (tx p1.s), .int .i64 p1.x, .int .i64 p1.y, .int .i64 p2.k, .int .i64 p2.n, .string (tx p2.s), .int .i64 p2.x, .int .i64 p2.y] 106))
    have hx9 := (HX3.out.all5 (.int .i64 0) (.int .i64 0) (.string ⟨#[]⟩) (.int .i64 0) (.int .i64 0)).old (box1 _ (.cells #[.int .i64 p0.k, .int .i64 p0.n, .string (tx p0.s), .int .i64 p0.x, .int .i64 p0.y, .int .i64 p1.k, .int .i64 p1.n, .string (tx p1.s), .int .i64 p1.x, .int .i64 p1.y, .int .i64 p2.k, .int .i64 p2.n, .string (tx p2.s), .int .i64 p2.x, .int .i64 p2.y] 106))
    clear c0 c1 c2 c3 c4 z0 z1 z2 z3 z4 HD3 HM3 HX3
    generalize (((((w3.setCell ⟨w.heap.size, 0, none⟩ (.int .i64 0)).setCell ⟨w.heap.size, 1, none⟩ (.int .i64 0)).setCell ⟨w.heap.size, 2, none⟩ (.string ⟨#[]⟩)).setCell ⟨w.heap.size, 3, none⟩ (.int .i64 0)).setCell ⟨w.heap.size, 4, none⟩ (.int .i64 0)).alloc (.cells #[.int .i64 p0.k, .int .i64 p0.n, .string (tx p0.s), .int .i64 p0.x, .int .i64 p0.y, .int .i64 p1.k, .int .i64 p1.n, .string (tx p1.s), .int .i64 p1.x, .int .i64 p1.y, .int .i64 p2.k, .int .i64 p2.n, .string (tx p2.s), .int .i64 p2.x, .int .i64 p2.y] 106) = w9 at *
    have c0 := hx9.blk.c 0 _ rfl; have c1 := hx9.blk.c 1 _ rfl; have c2 := hx9.blk.c 2 _ rfl; have c3 := hx9.blk.c 3 _ rfl; have c4 := hx9.blk.c 4 _ rfl
    refine bodyPost_ret (v := .tuple #[.agg #[.int .i64 0, .int .i64 0, .string ⟨#[]⟩, .int .i64 0, .int .i64 0], .int .i64 x]) (by simp [results, Tryz.results48, go_sem, c0, c1, c2, c3, c4]) rfl ⟨vz, x, S1, n1, ov1, rfl, by rw [HBD.out]; exact Ans.er (bnd_er HXX.out) rfl HX0.out, hd9, hm9⟩
  · have HXX := Lib.hid hX; have HAA := Lib.hid ha; have HGD := Lib.hid (HG.out rfl)
    clear hX ha HA HG
    have h0 := (rt_all R0.out).2.1; have h1 := (rt_all R1.out).2.1
    rw [← tx_size] at h0 h1
    by_cases hbig : 4096 < p0.s.length + p1.s.length
    · have hbig2 : 4096 < (tx p0.s).size + (tx p1.s).size := by rw [tx_size, tx_size]; exact hbig
      have HBIG := Lib.hid hbig; clear hbig
      have c0 := HX3.out.blk.v0; have c1 := HX3.out.blk.v1; have c2 := HX3.out.blk.v2; have c3 := HX3.out.blk.v3; have c4 := HX3.out.blk.v4
      have z0 := HX3.out.blk.g0; have z1 := HX3.out.blk.g1; have z2 := HX3.out.blk.g2; have z3 := HX3.out.blk.g3; have z4 := HX3.out.blk.g4
      go_wp2_with (fail)
      have hd9 := (HD3.out.all5 HX3.out (.int .i64 0) (.int .i64 0) (.string ⟨#[]⟩) (.int .i64 0) (.int .i64 0)).old (box1 _ (.cells #[.int .i64 p0.k, .int .i64 p0.n, .string (tx p0.s), .int .i64 p0.x, .int .i64 p0.y, .int .i64 p1.k, .int .i64 p1.n, .string (tx p1.s), .int .i64 p1.x, .int .i64 p1.y, .int .i64 p2.k, .int .i64 p2.n, .string (tx p2.s), .int .i64 p2.x, .int .i64 p2.y] 106))
      have hm9 := (HM3.out.all5 (Nat.le_refl _) (.int .i64 0) (.int .i64 0) (.string ⟨#[]⟩) (.int .i64 0) (.int .i64 0)).old (box1 _ (.cells #[.int .i64 p0.k, .int .i64 p0.n, .string (tx p0.s), .int .i64 p0.x, .int .i64 p0.y, .int .i64 p1.k, .int .i64 p1.n, .string (tx p1.s), .int .i64 p1.x, .int .i64 p1.y, .int .i64 p2.k, .int .i64 p2.n, .string (tx p2.s), .int .i64 p2.x, .int .i64 p2.y] 106))
      have hx9 := (HX3.out.all5 (.int .i64 0) (.int .i64 0) (.string ⟨#[]⟩) (.int .i64 0) (.int .i64 0)).old (box1 _ (.cells #[.int .i64 p0.k, .int .i64 p0.n, .string (tx p0.s), .int .i64 p0.x, .int .i64 p0.y, .int .i64 p1.k, .int .i64 p1.n, .string (tx p1.s), .int .i64 p1.x, .int .i64 p1.y, .int .i64 p2.k, .int .i64 p2.n, .string (tx p2.s), .int .i64 p2.x, .int .i64 p2.y] 106))
      clear c0 c1 c2 c3 c4 z0 z1 z2 z3 z4 HD3 HM3 HX3
      generalize (((((w3.setCell ⟨w.heap.size, 0, none⟩ (.int .i64 0)).setCell ⟨w.heap.size, 1, none⟩ (.int .i64 0)).setCell ⟨w.heap.size, 2, none⟩ (.string ⟨#[]⟩)).setCell ⟨w.heap.size, 3, none⟩ (.int .i64 0)).setCell ⟨w.heap.size, 4, none⟩ (.int .i64 0)).alloc (.cells #[.int .i64 p0.k, .int .i64 p0.n, .string (tx p0.s), .int .i64 p0.x, .int .i64 p0.y, .int .i64 p1.k, .int .i64 p1.n, .string (tx p1.s), .int .i64 p1.x, .int .i64 p1.y, .int .i64 p2.k, .int .i64 p2.n, .string (tx p2.s), .int .i64 p2.x, .int .i64 p2.y] 106) = w9 at *
      have c0 := hx9.blk.c 0 _ rfl; have c1 := hx9.blk.c 1 _ rfl; have c2 := hx9.blk.c 2 _ rfl; have c3 := hx9.blk.c 3 _ rfl; have c4 := hx9.blk.c 4 _ rfl
      refine bodyPost_ret (v := .tuple #[.agg #[.int .i64 0, .int .i64 0, .string ⟨#[]⟩, .int .i64 0, .int .i64 0], .int .i64 3]) (by simp [results, Tryz.results48, go_sem, c0, c1, c2, c3, c4]) rfl ⟨vz, 3, S1, n1, ov1, rfl, by rw [HBD.out]; obtain ⟨rfl, rfl, rfl⟩ := HAA.out; exact Ans.er (by rw [bnd_ok HXX.out]; exact cat_big HBIG.out _ _) rfl (by decide), hd9, hm9⟩
    · have hbig2 : (tx p0.s).size + (tx p1.s).size ≤ 4096 := by rw [tx_size, tx_size]; omega
      have HBIG := Lib.hid hbig; clear hbig
      have hcat : ¬ (tx p0.s).size + (tx p1.s).size > 9223372036854775807 := by omega
      go_wp2_with (fail)
      refine (etext_any _ _).mono ?_
      rintro e w4 ⟨rfl, hb⟩
      have HD4 := Lib.hid ((HD3.out.old (box1 w3 _)).old hb); have HM4 := Lib.hid ((HM3.out.old (box1 w3 _)).old hb); have HX4 := Lib.hid ((HX3.out.old (box1 w3 _)).old hb); have HPB4 := Lib.hid (HPB.out.old hb)
      clear hcat hbig2
      clear hb HD3 HM3 HX3 HPB 
      have c0 := HX4.out.blk.v0; have c1 := HX4.out.blk.v1; have c2 := HX4.out.blk.v2; have c3 := HX4.out.blk.v3; have c4 := HX4.out.blk.v4
      have z0 := HX4.out.blk.g0; have z1 := HX4.out.blk.g1; have z2 := HX4.out.blk.g2; have z3 := HX4.out.blk.g3; have z4 := HX4.out.blk.g4
      go_wp2_with (fail)
      have hd9 := HD4.out.all5 HX4.out (.int .i64 1) (.int .i64 0) (.string (tx p0.s ++ tx p1.s)) (.int .i64 0) (.int .i64 0)
      have hm9 := HM4.out.all5 (Nat.le_refl _) (.int .i64 1) (.int .i64 0) (.string (tx p0.s ++ tx p1.s)) (.int .i64 0) (.int .i64 0)
      have hx9 := HX4.out.all5 (.int .i64 1) (.int .i64 0) (.string (tx p0.s ++ tx p1.s)) (.int .i64 0) (.int .i64 0)
      clear c0 c1 c2 c3 c4 z0 z1 z2 z3 z4 HD4 HM4 HX4
      generalize (((((w4.setCell ⟨w.heap.size, 0, none⟩ (.int .i64 1)).setCell ⟨w.heap.size, 1, none⟩ (.int .i64 0)).setCell ⟨w.heap.size, 2, none⟩ (.string (tx p0.s ++ tx p1.s))).setCell ⟨w.heap.size, 3, none⟩ (.int .i64 0)).setCell ⟨w.heap.size, 4, none⟩ (.int .i64 0)) = w9 at *
      have c0 := hx9.blk.c 0 _ rfl; have c1 := hx9.blk.c 1 _ rfl; have c2 := hx9.blk.c 2 _ rfl; have c3 := hx9.blk.c 3 _ rfl; have c4 := hx9.blk.c 4 _ rfl
      refine bodyPost_ret (v := .tuple #[.agg #[.int .i64 1, .int .i64 0, .string (tx p0.s ++ tx p1.s), .int .i64 0, .int .i64 0], .int .i64 0]) (by simp [results, Tryz.results48, go_sem, c0, c1, c2, c3, c4]) rfl ⟨tv (p0.s ++ p1.s), 0, S1, n1, ov1, by rw [tx_append]; rfl, by rw [HBD.out]; obtain ⟨rfl, rfl, rfl⟩ := HAA.out; exact Ans.ok (by rw [bnd_ok HXX.out]; exact cat_ok HBIG.out _ _) rfl, hd9, hm9⟩
set_option maxRecDepth 100000 in
set_option maxHeartbeats 1000000 in
theorem deed_norm {d : Nat} (HD : DoC (ev d) d) : DeedC d 24 58 := by
  intro w0 A c E b l S n ov w k r hcx hd hg hkl ho hrn hx hd24
  have HBD : Hid (body (ev d) (nd l k) (l.drop (k + 1)) S n = bnd (prt (ev d) [2] (l.drop (k + 1))) (af 24) S n) := by show _ = _; exact congrFun (congrFun (body_prt ho (by decide) (by decide) (by decide) (by decide) (by decide) (by decide)) S) n
  have HP := Lib.hid (pre_any HD [2] (by decide) (by decide) (by decide) hcx hd hg hkl hx (by decide) hd24)
  clear hcx hd hg ho hrn hx hd24 HD
  go_enter Tryz.func58, Tryz.ntmps58
  go_wp2_with (fail)
  refine (HP.out).mono ?_
  rintro e w3 ⟨p0, p1, p2, x, S1, n1, ov1, rfl, ha, r0, r1, r2, hgd, hd3, hm3, hx3⟩
  have HA := Lib.hid ha; have R0 := Lib.hid r0; have R1 := Lib.hid r1; have R2 := Lib.hid r2; have HG := Lib.hid hgd; have HD3 := Lib.hid hd3; have HM3 := Lib.hid hm3; have HX3 := Lib.hid hx3
  have HPB : Hid (Box w0 b E ov1 w3.heap.size [.int .i64 p0.k, .int .i64 p0.n, .string (tx p0.s), .int .i64 p0.x, .int .i64 p0.y, .int .i64 p1.k, .int .i64 p1.n, .string (tx p1.s), .int .i64 p1.x, .int .i64 p1.y, .int .i64 p2.k, .int .i64 p2.n, .string (tx p2.s), .int .i64 p2.x, .int .i64 p2.y] (w3.alloc (.cells #[.int .i64 p0.k, .int .i64 p0.n, .string (tx p0.s), .int .i64 p0.x, .int .i64 p0.y, .int .i64 p1.k, .int .i64 p1.n, .string (tx p1.s), .int .i64 p1.x, .int .i64 p1.y, .int .i64 p2.k, .int .i64 p2.n, .string (tx p2.s), .int .i64 p2.x, .int .i64 p2.y] 106))) := Box.made hd3 (by omega) 106 [.int .i64 p0.k, .int .i64 p0.n, .string (tx p0.s), .int .i64 p0.x, .int .i64 p0.y, .int .i64 p1.k, .int .i64 p1.n, .string (tx p1.s), .int .i64 p1.x, .int .i64 p1.y, .int .i64 p2.k, .int .i64 p2.n, .string (tx p2.s), .int .i64 p2.x, .int .i64 p2.y]
  have hlZ := hx3.blk.lt
  clear ha r0 r1 r2 hgd hd3 hm3 hx3 HP
  rcases HA.out.cases with ⟨hx0, hX⟩ | ⟨rfl, a, ha, hX⟩
  · have HX0 := Lib.hid hx0; have HXX := Lib.hid hX
    have hx1 : (x == 0) = false := by simpa using hx0
    have hx2 : (x != 0) = true := by simpa using hx0
    clear hx0 hX HA 
    have c0 := HX3.out.blk.v0; have c1 := HX3.out.blk.v1; have c2 := HX3.out.blk.v2; have c3 := HX3.out.blk.v3; have c4 := HX3.out.blk.v4
    have z0 := HX3.out.blk.g0; have z1 := HX3.out.blk.g1; have z2 := HX3.out.blk.g2; have z3 := HX3.out.blk.g3; have z4 := HX3.out.blk.g4
    go_wp2_with (fail)
    have hd9 := (HD3.out.all5 HX3.out (.int .i64 0) (.int .i64 0) (.string ⟨#[]⟩) (.int .i64 0) (.int .i64 0)).old (box1 _ (.cells #[.int .i64 p0.k, .int .i64 p0.n, .string (tx p0.s), .int .i64 p0.x, .int .i64 p0.y, .int .i64 p1.k, .int .i64 p1.n, .string (tx p1.s), .int .i64 p1.x, .int .i64 p1.y, .int .i64 p2.k, .int .i64 p2.n, .string (tx p2.s), .int .i64 p2.x, .int .i64 p2.y] 106))
    have hm9 := (HM3.out.all5 (Nat.le_refl _) (.int .i64 0) (.int .i64 0) (.string ⟨#[]⟩) (.int .i64 0) (.int .i64 0)).old (box1 _ (.cells #[.int .i64 p0.k, .int .i64 p0.n, .string (tx p0.s), .int .i64 p0.x, .int .i64 p0.y, .int .i64 p1.k, .int .i64 p1.n, .string (tx p1.s), .int .i64 p1.x, .int .i64 p1.y, .int .i64 p2.k, .int .i64 p2.n, .string (tx p2.s), .int .i64 p2.x, .int .i64 p2.y] 106))
    have hx9 := (HX3.out.all5 (.int .i64 0) (.int .i64 0) (.string ⟨#[]⟩) (.int .i64 0) (.int .i64 0)).old (box1 _ (.cells #[.int .i64 p0.k, .int .i64 p0.n, .string (tx p0.s), .int .i64 p0.x, .int .i64 p0.y, .int .i64 p1.k, .int .i64 p1.n, .string (tx p1.s), .int .i64 p1.x, .int .i64 p1.y, .int .i64 p2.k, .int .i64 p2.n, .string (tx p2.s), .int .i64 p2.x, .int .i64 p2.y] 106))
    clear c0 c1 c2 c3 c4 z0 z1 z2 z3 z4 HD3 HM3 HX3
    generalize (((((w3.setCell ⟨w.heap.size, 0, none⟩ (.int .i64 0)).setCell ⟨w.heap.size, 1, none⟩ (.int .i64 0)).setCell ⟨w.heap.size, 2, none⟩ (.string ⟨#[]⟩)).setCell ⟨w.heap.size, 3, none⟩ (.int .i64 0)).setCell ⟨w.heap.size, 4, none⟩ (.int .i64 0)).alloc (.cells #[.int .i64 p0.k, .int .i64 p0.n, .string (tx p0.s), .int .i64 p0.x, .int .i64 p0.y, .int .i64 p1.k, .int .i64 p1.n, .string (tx p1.s), .int .i64 p1.x, .int .i64 p1.y, .int .i64 p2.k, .int .i64 p2.n, .string (tx p2.s), .int .i64 p2.x, .int .i64 p2.y] 106) = w9 at *
    have c0 := hx9.blk.c 0 _ rfl; have c1 := hx9.blk.c 1 _ rfl; have c2 := hx9.blk.c 2 _ rfl; have c3 := hx9.blk.c 3 _ rfl; have c4 := hx9.blk.c 4 _ rfl
    refine bodyPost_ret (v := .tuple #[.agg #[.int .i64 0, .int .i64 0, .string ⟨#[]⟩, .int .i64 0, .int .i64 0], .int .i64 x]) (by simp [results, Tryz.results58, go_sem, c0, c1, c2, c3, c4]) rfl ⟨vz, x, S1, n1, ov1, rfl, by rw [HBD.out]; exact Ans.er (bnd_er HXX.out) rfl HX0.out, hd9, hm9⟩
  · have HXX := Lib.hid hX; have HAA := Lib.hid ha; have HGD := Lib.hid (HG.out rfl)
    clear hX ha HA HG
    have HN := Lib.hid (norm_yes (rt_all R0.out).2.2.1)
    unfold pt at HN
    go_wp2_with (fail)
    refine (HN.out _).mono ?_
    rintro e w4 ⟨rfl, hb⟩
    have HD4 := Lib.hid ((HD3.out.old (box1 w3 _)).old hb); have HM4 := Lib.hid ((HM3.out.old (box1 w3 _)).old hb); have HX4 := Lib.hid ((HX3.out.old (box1 w3 _)).old hb); have HPB4 := Lib.hid (HPB.out.old hb)
    clear hb HD3 HM3 HX3 HPB 
    have c0 := HX4.out.blk.v0; have c1 := HX4.out.blk.v1; have c2 := HX4.out.blk.v2; have c3 := HX4.out.blk.v3; have c4 := HX4.out.blk.v4
    have z0 := HX4.out.blk.g0; have z1 := HX4.out.blk.g1; have z2 := HX4.out.blk.g2; have z3 := HX4.out.blk.g3; have z4 := HX4.out.blk.g4
    go_wp2_with (fail)
    refine (enumber_any _ _).mono ?_
    rintro e w5 ⟨rfl, hb⟩
    have HD5 := Lib.hid (HD4.out.old hb); have HM5 := Lib.hid (HM4.out.old hb); have HX5 := Lib.hid (HX4.out.old hb); have HPB5 := Lib.hid (HPB4.out.old hb)
    clear hb HD4 HM4 HX4 HPB4 c0 c1 c2 c3 c4 z0 z1 z2 z3 z4
    have c0 := HX5.out.blk.v0; have c1 := HX5.out.blk.v1; have c2 := HX5.out.blk.v2; have c3 := HX5.out.blk.v3; have c4 := HX5.out.blk.v4
    have z0 := HX5.out.blk.g0; have z1 := HX5.out.blk.g1; have z2 := HX5.out.blk.g2; have z3 := HX5.out.blk.g3; have z4 := HX5.out.blk.g4
    go_wp2_with (fail)
    have hd9 := HD5.out.all5 HX5.out (.int .i64 0) (.int .i64 (p0.x * p0.x + p0.y * p0.y)) (.string ⟨#[]⟩) (.int .i64 0) (.int .i64 0)
    have hm9 := HM5.out.all5 (Nat.le_refl _) (.int .i64 0) (.int .i64 (p0.x * p0.x + p0.y * p0.y)) (.string ⟨#[]⟩) (.int .i64 0) (.int .i64 0)
    have hx9 := HX5.out.all5 (.int .i64 0) (.int .i64 (p0.x * p0.x + p0.y * p0.y)) (.string ⟨#[]⟩) (.int .i64 0) (.int .i64 0)
    clear c0 c1 c2 c3 c4 z0 z1 z2 z3 z4 HD5 HM5 HX5
    generalize (((((w5.setCell ⟨w.heap.size, 0, none⟩ (.int .i64 0)).setCell ⟨w.heap.size, 1, none⟩ (.int .i64 (p0.x * p0.x + p0.y * p0.y))).setCell ⟨w.heap.size, 2, none⟩ (.string ⟨#[]⟩)).setCell ⟨w.heap.size, 3, none⟩ (.int .i64 0)).setCell ⟨w.heap.size, 4, none⟩ (.int .i64 0)) = w9 at *
    have c0 := hx9.blk.c 0 _ rfl; have c1 := hx9.blk.c 1 _ rfl; have c2 := hx9.blk.c 2 _ rfl; have c3 := hx9.blk.c 3 _ rfl; have c4 := hx9.blk.c 4 _ rfl
    refine bodyPost_ret (v := .tuple #[.agg #[.int .i64 0, .int .i64 (p0.x * p0.x + p0.y * p0.y), .string ⟨#[]⟩, .int .i64 0, .int .i64 0], .int .i64 0]) (by simp [results, Tryz.results58, go_sem, c0, c1, c2, c3, c4]) rfl ⟨nv (p0.x * p0.x + p0.y * p0.y), 0, S1, n1, ov1, rfl, by rw [HBD.out]; obtain ⟨rfl, rfl, rfl⟩ := HAA.out; exact Ans.ok (by rw [bnd_ok HXX.out]; rfl) rfl, hd9, hm9⟩
set_option maxRecDepth 100000 in
set_option maxHeartbeats 1000000 in
theorem deed_conj {d : Nat} (HD : DoC (ev d) d) : DeedC d 25 59 := by
  intro w0 A c E b l S n ov w k r hcx hd hg hkl ho hrn hx hd24
  have HBD : Hid (body (ev d) (nd l k) (l.drop (k + 1)) S n = bnd (prt (ev d) [2] (l.drop (k + 1))) (af 25) S n) := by show _ = _; exact congrFun (congrFun (body_prt ho (by decide) (by decide) (by decide) (by decide) (by decide) (by decide)) S) n
  have HP := Lib.hid (pre_any HD [2] (by decide) (by decide) (by decide) hcx hd hg hkl hx (by decide) hd24)
  clear hcx hd hg ho hrn hx hd24 HD
  go_enter Tryz.func59, Tryz.ntmps59
  go_wp2_with (fail)
  refine (HP.out).mono ?_
  rintro e w3 ⟨p0, p1, p2, x, S1, n1, ov1, rfl, ha, r0, r1, r2, hgd, hd3, hm3, hx3⟩
  have HA := Lib.hid ha; have R0 := Lib.hid r0; have R1 := Lib.hid r1; have R2 := Lib.hid r2; have HG := Lib.hid hgd; have HD3 := Lib.hid hd3; have HM3 := Lib.hid hm3; have HX3 := Lib.hid hx3
  have HPB : Hid (Box w0 b E ov1 w3.heap.size [.int .i64 p0.k, .int .i64 p0.n, .string (tx p0.s), .int .i64 p0.x, .int .i64 p0.y, .int .i64 p1.k, .int .i64 p1.n, .string (tx p1.s), .int .i64 p1.x, .int .i64 p1.y, .int .i64 p2.k, .int .i64 p2.n, .string (tx p2.s), .int .i64 p2.x, .int .i64 p2.y] (w3.alloc (.cells #[.int .i64 p0.k, .int .i64 p0.n, .string (tx p0.s), .int .i64 p0.x, .int .i64 p0.y, .int .i64 p1.k, .int .i64 p1.n, .string (tx p1.s), .int .i64 p1.x, .int .i64 p1.y, .int .i64 p2.k, .int .i64 p2.n, .string (tx p2.s), .int .i64 p2.x, .int .i64 p2.y] 106))) := Box.made hd3 (by omega) 106 [.int .i64 p0.k, .int .i64 p0.n, .string (tx p0.s), .int .i64 p0.x, .int .i64 p0.y, .int .i64 p1.k, .int .i64 p1.n, .string (tx p1.s), .int .i64 p1.x, .int .i64 p1.y, .int .i64 p2.k, .int .i64 p2.n, .string (tx p2.s), .int .i64 p2.x, .int .i64 p2.y]
  have hlZ := hx3.blk.lt
  clear ha r0 r1 r2 hgd hd3 hm3 hx3 HP
  rcases HA.out.cases with ⟨hx0, hX⟩ | ⟨rfl, a, ha, hX⟩
  · have HX0 := Lib.hid hx0; have HXX := Lib.hid hX
    have hx1 : (x == 0) = false := by simpa using hx0
    have hx2 : (x != 0) = true := by simpa using hx0
    clear hx0 hX HA 
    have c0 := HX3.out.blk.v0; have c1 := HX3.out.blk.v1; have c2 := HX3.out.blk.v2; have c3 := HX3.out.blk.v3; have c4 := HX3.out.blk.v4
    have z0 := HX3.out.blk.g0; have z1 := HX3.out.blk.g1; have z2 := HX3.out.blk.g2; have z3 := HX3.out.blk.g3; have z4 := HX3.out.blk.g4
    go_wp2_with (fail)
    have hd9 := (HD3.out.all5 HX3.out (.int .i64 0) (.int .i64 0) (.string ⟨#[]⟩) (.int .i64 0) (.int .i64 0)).old (box1 _ (.cells #[.int .i64 p0.k, .int .i64 p0.n, .string (tx p0.s), .int .i64 p0.x, .int .i64 p0.y, .int .i64 p1.k, .int .i64 p1.n, .string (tx p1.s), .int .i64 p1.x, .int .i64 p1.y, .int .i64 p2.k, .int .i64 p2.n, .string (tx p2.s), .int .i64 p2.x, .int .i64 p2.y] 106))
    have hm9 := (HM3.out.all5 (Nat.le_refl _) (.int .i64 0) (.int .i64 0) (.string ⟨#[]⟩) (.int .i64 0) (.int .i64 0)).old (box1 _ (.cells #[.int .i64 p0.k, .int .i64 p0.n, .string (tx p0.s), .int .i64 p0.x, .int .i64 p0.y, .int .i64 p1.k, .int .i64 p1.n, .string (tx p1.s), .int .i64 p1.x, .int .i64 p1.y, .int .i64 p2.k, .int .i64 p2.n, .string (tx p2.s), .int .i64 p2.x, .int .i64 p2.y] 106))
    have hx9 := (HX3.out.all5 (.int .i64 0) (.int .i64 0) (.string ⟨#[]⟩) (.int .i64 0) (.int .i64 0)).old (box1 _ (.cells #[.int .i64 p0.k, .int .i64 p0.n, .string (tx p0.s), .int .i64 p0.x, .int .i64 p0.y, .int .i64 p1.k, .int .i64 p1.n, .string (tx p1.s), .int .i64 p1.x, .int .i64 p1.y, .int .i64 p2.k, .int .i64 p2.n, .string (tx p2.s), .int .i64 p2.x, .int .i64 p2.y] 106))
    clear c0 c1 c2 c3 c4 z0 z1 z2 z3 z4 HD3 HM3 HX3
    generalize (((((w3.setCell ⟨w.heap.size, 0, none⟩ (.int .i64 0)).setCell ⟨w.heap.size, 1, none⟩ (.int .i64 0)).setCell ⟨w.heap.size, 2, none⟩ (.string ⟨#[]⟩)).setCell ⟨w.heap.size, 3, none⟩ (.int .i64 0)).setCell ⟨w.heap.size, 4, none⟩ (.int .i64 0)).alloc (.cells #[.int .i64 p0.k, .int .i64 p0.n, .string (tx p0.s), .int .i64 p0.x, .int .i64 p0.y, .int .i64 p1.k, .int .i64 p1.n, .string (tx p1.s), .int .i64 p1.x, .int .i64 p1.y, .int .i64 p2.k, .int .i64 p2.n, .string (tx p2.s), .int .i64 p2.x, .int .i64 p2.y] 106) = w9 at *
    have c0 := hx9.blk.c 0 _ rfl; have c1 := hx9.blk.c 1 _ rfl; have c2 := hx9.blk.c 2 _ rfl; have c3 := hx9.blk.c 3 _ rfl; have c4 := hx9.blk.c 4 _ rfl
    refine bodyPost_ret (v := .tuple #[.agg #[.int .i64 0, .int .i64 0, .string ⟨#[]⟩, .int .i64 0, .int .i64 0], .int .i64 x]) (by simp [results, Tryz.results59, go_sem, c0, c1, c2, c3, c4]) rfl ⟨vz, x, S1, n1, ov1, rfl, by rw [HBD.out]; exact Ans.er (bnd_er HXX.out) rfl HX0.out, hd9, hm9⟩
  · have HXX := Lib.hid hX; have HAA := Lib.hid ha; have HGD := Lib.hid (HG.out rfl)
    clear hX ha HA HG
    have HN := Lib.hid (conj_yes (rt_all R0.out).2.2.1)
    unfold pt at HN
    go_wp2_with (fail)
    refine (HN.out _).mono ?_
    rintro e w4 ⟨rfl, hb⟩
    have HD4 := Lib.hid ((HD3.out.old (box1 w3 _)).old hb); have HM4 := Lib.hid ((HM3.out.old (box1 w3 _)).old hb); have HX4 := Lib.hid ((HX3.out.old (box1 w3 _)).old hb); have HPB4 := Lib.hid (HPB.out.old hb)
    clear hb HD3 HM3 HX3 HPB 
    have c0 := HX4.out.blk.v0; have c1 := HX4.out.blk.v1; have c2 := HX4.out.blk.v2; have c3 := HX4.out.blk.v3; have c4 := HX4.out.blk.v4
    have z0 := HX4.out.blk.g0; have z1 := HX4.out.blk.g1; have z2 := HX4.out.blk.g2; have z3 := HX4.out.blk.g3; have z4 := HX4.out.blk.g4
    have hlz4 := HX4.out.blk.lt
    go_wp2_with (fail)
    refine (epoint_any _ _ _).mono ?_
    rintro e w5 ⟨rfl, hb⟩
    have HD5 := Lib.hid ((HD4.out.old (box1 w4 _)).old hb); have HM5 := Lib.hid ((HM4.out.old (box1 w4 _)).old hb); have HX5 := Lib.hid ((HX4.out.old (box1 w4 _)).old hb)
    clear hb HD4 HM4 HX4 HPB4 c0 c1 c2 c3 c4 z0 z1 z2 z3 z4
    have c0 := HX5.out.blk.v0; have c1 := HX5.out.blk.v1; have c2 := HX5.out.blk.v2; have c3 := HX5.out.blk.v3; have c4 := HX5.out.blk.v4
    have z0 := HX5.out.blk.g0; have z1 := HX5.out.blk.g1; have z2 := HX5.out.blk.g2; have z3 := HX5.out.blk.g3; have z4 := HX5.out.blk.g4
    go_wp2_with (fail)
    have hd9 := HD5.out.all5 HX5.out (.int .i64 2) (.int .i64 0) (.string ⟨#[]⟩) (.int .i64 p0.x) (.int .i64 (-p0.y))
    have hm9 := HM5.out.all5 (Nat.le_refl _) (.int .i64 2) (.int .i64 0) (.string ⟨#[]⟩) (.int .i64 p0.x) (.int .i64 (-p0.y))
    have hx9 := HX5.out.all5 (.int .i64 2) (.int .i64 0) (.string ⟨#[]⟩) (.int .i64 p0.x) (.int .i64 (-p0.y))
    clear c0 c1 c2 c3 c4 z0 z1 z2 z3 z4 HD5 HM5 HX5
    generalize (((((w5.setCell ⟨w.heap.size, 0, none⟩ (.int .i64 2)).setCell ⟨w.heap.size, 1, none⟩ (.int .i64 0)).setCell ⟨w.heap.size, 2, none⟩ (.string ⟨#[]⟩)).setCell ⟨w.heap.size, 3, none⟩ (.int .i64 p0.x)).setCell ⟨w.heap.size, 4, none⟩ (.int .i64 (-p0.y))) = w9 at *
    have c0 := hx9.blk.c 0 _ rfl; have c1 := hx9.blk.c 1 _ rfl; have c2 := hx9.blk.c 2 _ rfl; have c3 := hx9.blk.c 3 _ rfl; have c4 := hx9.blk.c 4 _ rfl
    refine bodyPost_ret (v := .tuple #[.agg #[.int .i64 2, .int .i64 0, .string ⟨#[]⟩, .int .i64 p0.x, .int .i64 (-p0.y)], .int .i64 0]) (by simp [results, Tryz.results59, go_sem, c0, c1, c2, c3, c4]) rfl ⟨pv p0.x (-p0.y), 0, S1, n1, ov1, rfl, by rw [HBD.out]; obtain ⟨rfl, rfl, rfl⟩ := HAA.out; exact Ans.ok (by rw [bnd_ok HXX.out]; rfl) rfl, hd9, hm9⟩
set_option maxRecDepth 100000 in
set_option maxHeartbeats 1000000 in
theorem deed_spot {d : Nat} (HD : DoC (ev d) d) : DeedC d 21 55 := by
  intro w0 A c E b l S n ov w k r hcx hd hg hkl ho hrn hx hd24
  have HBD : Hid (body (ev d) (nd l k) (l.drop (k + 1)) S n = bnd (prt (ev d) [0, 0] (l.drop (k + 1))) (af 21) S n) := by show _ = _; exact congrFun (congrFun (body_prt ho (by decide) (by decide) (by decide) (by decide) (by decide) (by decide)) S) n
  have HP := Lib.hid (pre_any HD [0, 0] (by decide) (by decide) (by decide) hcx hd hg hkl hx (by decide) hd24)
  clear hcx hd hg ho hrn hx hd24 HD
  go_enter Tryz.func55, Tryz.ntmps55
  go_wp2_with (fail)
  refine (HP.out).mono ?_
  rintro e w3 ⟨p0, p1, p2, x, S1, n1, ov1, rfl, ha, r0, r1, r2, hgd, hd3, hm3, hx3⟩
  have HA := Lib.hid ha; have R0 := Lib.hid r0; have R1 := Lib.hid r1; have R2 := Lib.hid r2; have HG := Lib.hid hgd; have HD3 := Lib.hid hd3; have HM3 := Lib.hid hm3; have HX3 := Lib.hid hx3
  have HPB : Hid (Box w0 b E ov1 w3.heap.size [.int .i64 p0.k, .int .i64 p0.n, .string (tx p0.s), .int .i64 p0.x, .int .i64 p0.y, .int .i64 p1.k, .int .i64 p1.n, .string (tx p1.s), .int .i64 p1.x, .int .i64 p1.y, .int .i64 p2.k, .int .i64 p2.n, .string (tx p2.s), .int .i64 p2.x, .int .i64 p2.y] (w3.alloc (.cells #[.int .i64 p0.k, .int .i64 p0.n, .string (tx p0.s), .int .i64 p0.x, .int .i64 p0.y, .int .i64 p1.k, .int .i64 p1.n, .string (tx p1.s), .int .i64 p1.x, .int .i64 p1.y, .int .i64 p2.k, .int .i64 p2.n, .string (tx p2.s), .int .i64 p2.x, .int .i64 p2.y] 106))) := Box.made hd3 (by omega) 106 [.int .i64 p0.k, .int .i64 p0.n, .string (tx p0.s), .int .i64 p0.x, .int .i64 p0.y, .int .i64 p1.k, .int .i64 p1.n, .string (tx p1.s), .int .i64 p1.x, .int .i64 p1.y, .int .i64 p2.k, .int .i64 p2.n, .string (tx p2.s), .int .i64 p2.x, .int .i64 p2.y]
  have hlZ := hx3.blk.lt
  clear ha r0 r1 r2 hgd hd3 hm3 hx3 HP
  rcases HA.out.cases with ⟨hx0, hX⟩ | ⟨rfl, a, ha, hX⟩
  · have HX0 := Lib.hid hx0; have HXX := Lib.hid hX
    have HI := Lib.hid (eif_any 2 0 p0.n p1.n x ⟨#[]⟩)
    rw [ifv_er hx0] at HI
    clear hx0 hX HA
    go_wp2_with (fail)
    refine (epoint_any _ _ _).mono ?_
    rintro e w4 ⟨rfl, hb⟩
    have HD4 := Lib.hid ((HD3.out.old (box1 w3 _)).old hb); have HM4 := Lib.hid ((HM3.out.old (box1 w3 _)).old hb); have HX4 := Lib.hid ((HX3.out.old (box1 w3 _)).old hb); have HPB4 := Lib.hid (HPB.out.old hb)
    clear hb HD3 HM3 HX3 HPB 
    have c0 := HX4.out.blk.v0; have c1 := HX4.out.blk.v1; have c2 := HX4.out.blk.v2; have c3 := HX4.out.blk.v3; have c4 := HX4.out.blk.v4
    have z0 := HX4.out.blk.g0; have z1 := HX4.out.blk.g1; have z2 := HX4.out.blk.g2; have z3 := HX4.out.blk.g3; have z4 := HX4.out.blk.g4
    go_wp2_with (fail)
    refine (HI.out _).mono ?_
    rintro e w5 ⟨rfl, hb⟩
    have HD5 := Lib.hid (HD4.out.old hb); have HM5 := Lib.hid (HM4.out.old hb); have HX5 := Lib.hid (HX4.out.old hb); have HPB5 := Lib.hid (HPB4.out.old hb)
    clear hb HD4 HM4 HX4 HPB4 c0 c1 c2 c3 c4 z0 z1 z2 z3 z4
    have c0 := HX5.out.blk.v0; have c1 := HX5.out.blk.v1; have c2 := HX5.out.blk.v2; have c3 := HX5.out.blk.v3; have c4 := HX5.out.blk.v4
    have z0 := HX5.out.blk.g0; have z1 := HX5.out.blk.g1; have z2 := HX5.out.blk.g2; have z3 := HX5.out.blk.g3; have z4 := HX5.out.blk.g4
    go_wp2_with (fail)
    have hd9 := HD5.out.all5 HX5.out (.int .i64 0) (.int .i64 0) (.string ⟨#[]⟩) (.int .i64 0) (.int .i64 0)
    have hm9 := HM5.out.all5 (Nat.le_refl _) (.int .i64 0) (.int .i64 0) (.string ⟨#[]⟩) (.int .i64 0) (.int .i64 0)
    have hx9 := HX5.out.all5 (.int .i64 0) (.int .i64 0) (.string ⟨#[]⟩) (.int .i64 0) (.int .i64 0)
    clear c0 c1 c2 c3 c4 z0 z1 z2 z3 z4 HD5 HM5 HX5
    generalize (((((w5.setCell ⟨w.heap.size, 0, none⟩ (.int .i64 0)).setCell ⟨w.heap.size, 1, none⟩ (.int .i64 0)).setCell ⟨w.heap.size, 2, none⟩ (.string ⟨#[]⟩)).setCell ⟨w.heap.size, 3, none⟩ (.int .i64 0)).setCell ⟨w.heap.size, 4, none⟩ (.int .i64 0)) = w9 at *
    have c0 := hx9.blk.c 0 _ rfl; have c1 := hx9.blk.c 1 _ rfl; have c2 := hx9.blk.c 2 _ rfl; have c3 := hx9.blk.c 3 _ rfl; have c4 := hx9.blk.c 4 _ rfl
    refine bodyPost_ret (v := .tuple #[.agg #[.int .i64 0, .int .i64 0, .string ⟨#[]⟩, .int .i64 0, .int .i64 0], .int .i64 x]) (by simp [results, Tryz.results55, go_sem, c0, c1, c2, c3, c4]) rfl ⟨vz, x, S1, n1, ov1, rfl, by rw [HBD.out]; exact Ans.er (bnd_er HXX.out) rfl HX0.out, hd9, hm9⟩
  · have HXX := Lib.hid hX; have HAA := Lib.hid ha
    clear hX ha HA HG
    rcases Bool.eq_false_or_eq_true (rt (pv p0.n p1.n)) with hr | hr
    · have HR := Lib.hid hr
      have HI := Lib.hid (eif_any 2 0 p0.n p1.n 0 ⟨#[]⟩)
      rw [ifv_ok (show rt ⟨2, 0, (ByteArray.mk #[]).data.toList, p0.n, p1.n⟩ = true from hr)] at HI
      clear hr
      go_wp2_with (fail)
      refine (epoint_any _ _ _).mono ?_
      rintro e w4 ⟨rfl, hb⟩
      have HD4 := Lib.hid ((HD3.out.old (box1 w3 _)).old hb); have HM4 := Lib.hid ((HM3.out.old (box1 w3 _)).old hb); have HX4 := Lib.hid ((HX3.out.old (box1 w3 _)).old hb); have HPB4 := Lib.hid (HPB.out.old hb)
      clear hb HD3 HM3 HX3 HPB 
      have c0 := HX4.out.blk.v0; have c1 := HX4.out.blk.v1; have c2 := HX4.out.blk.v2; have c3 := HX4.out.blk.v3; have c4 := HX4.out.blk.v4
      have z0 := HX4.out.blk.g0; have z1 := HX4.out.blk.g1; have z2 := HX4.out.blk.g2; have z3 := HX4.out.blk.g3; have z4 := HX4.out.blk.g4
      go_wp2_with (fail)
      refine (HI.out _).mono ?_
      rintro e w5 ⟨rfl, hb⟩
      have HD5 := Lib.hid (HD4.out.old hb); have HM5 := Lib.hid (HM4.out.old hb); have HX5 := Lib.hid (HX4.out.old hb); have HPB5 := Lib.hid (HPB4.out.old hb)
      clear hb HD4 HM4 HX4 HPB4 c0 c1 c2 c3 c4 z0 z1 z2 z3 z4
      have c0 := HX5.out.blk.v0; have c1 := HX5.out.blk.v1; have c2 := HX5.out.blk.v2; have c3 := HX5.out.blk.v3; have c4 := HX5.out.blk.v4
      have z0 := HX5.out.blk.g0; have z1 := HX5.out.blk.g1; have z2 := HX5.out.blk.g2; have z3 := HX5.out.blk.g3; have z4 := HX5.out.blk.g4
      go_wp2_with (fail)
      have hd9 := HD5.out.all5 HX5.out (.int .i64 2) (.int .i64 0) (.string ⟨#[]⟩) (.int .i64 p0.n) (.int .i64 p1.n)
      have hm9 := HM5.out.all5 (Nat.le_refl _) (.int .i64 2) (.int .i64 0) (.string ⟨#[]⟩) (.int .i64 p0.n) (.int .i64 p1.n)
      have hx9 := HX5.out.all5 (.int .i64 2) (.int .i64 0) (.string ⟨#[]⟩) (.int .i64 p0.n) (.int .i64 p1.n)
      clear c0 c1 c2 c3 c4 z0 z1 z2 z3 z4 HD5 HM5 HX5
      generalize (((((w5.setCell ⟨w.heap.size, 0, none⟩ (.int .i64 2)).setCell ⟨w.heap.size, 1, none⟩ (.int .i64 0)).setCell ⟨w.heap.size, 2, none⟩ (.string ⟨#[]⟩)).setCell ⟨w.heap.size, 3, none⟩ (.int .i64 p0.n)).setCell ⟨w.heap.size, 4, none⟩ (.int .i64 p1.n)) = w9 at *
      have c0 := hx9.blk.c 0 _ rfl; have c1 := hx9.blk.c 1 _ rfl; have c2 := hx9.blk.c 2 _ rfl; have c3 := hx9.blk.c 3 _ rfl; have c4 := hx9.blk.c 4 _ rfl
      refine bodyPost_ret (v := .tuple #[.agg #[.int .i64 2, .int .i64 0, .string ⟨#[]⟩, .int .i64 p0.n, .int .i64 p1.n], .int .i64 0]) (by simp [results, Tryz.results55, go_sem, c0, c1, c2, c3, c4]) rfl ⟨pv p0.n p1.n, 0, S1, n1, ov1, rfl, by rw [HBD.out]; obtain ⟨rfl, rfl, rfl⟩ := HAA.out; exact Ans.ok (by rw [bnd_ok HXX.out]; exact chk_ok HR.out _ _) rfl, hd9, hm9⟩
    · have HR := Lib.hid hr
      have HI := Lib.hid (eif_any 2 0 p0.n p1.n 0 ⟨#[]⟩)
      rw [ifv_no (show rt ⟨2, 0, (ByteArray.mk #[]).data.toList, p0.n, p1.n⟩ = false from hr)] at HI
      clear hr
      go_wp2_with (fail)
      refine (epoint_any _ _ _).mono ?_
      rintro e w4 ⟨rfl, hb⟩
      have HD4 := Lib.hid ((HD3.out.old (box1 w3 _)).old hb); have HM4 := Lib.hid ((HM3.out.old (box1 w3 _)).old hb); have HX4 := Lib.hid ((HX3.out.old (box1 w3 _)).old hb); have HPB4 := Lib.hid (HPB.out.old hb)
      clear hb HD3 HM3 HX3 HPB 
      have c0 := HX4.out.blk.v0; have c1 := HX4.out.blk.v1; have c2 := HX4.out.blk.v2; have c3 := HX4.out.blk.v3; have c4 := HX4.out.blk.v4
      have z0 := HX4.out.blk.g0; have z1 := HX4.out.blk.g1; have z2 := HX4.out.blk.g2; have z3 := HX4.out.blk.g3; have z4 := HX4.out.blk.g4
      go_wp2_with (fail)
      refine (HI.out _).mono ?_
      rintro e w5 ⟨rfl, hb⟩
      have HD5 := Lib.hid (HD4.out.old hb); have HM5 := Lib.hid (HM4.out.old hb); have HX5 := Lib.hid (HX4.out.old hb); have HPB5 := Lib.hid (HPB4.out.old hb)
      clear hb HD4 HM4 HX4 HPB4 c0 c1 c2 c3 c4 z0 z1 z2 z3 z4
      have c0 := HX5.out.blk.v0; have c1 := HX5.out.blk.v1; have c2 := HX5.out.blk.v2; have c3 := HX5.out.blk.v3; have c4 := HX5.out.blk.v4
      have z0 := HX5.out.blk.g0; have z1 := HX5.out.blk.g1; have z2 := HX5.out.blk.g2; have z3 := HX5.out.blk.g3; have z4 := HX5.out.blk.g4
      go_wp2_with (fail)
      have hd9 := HD5.out.all5 HX5.out (.int .i64 0) (.int .i64 0) (.string ⟨#[]⟩) (.int .i64 0) (.int .i64 0)
      have hm9 := HM5.out.all5 (Nat.le_refl _) (.int .i64 0) (.int .i64 0) (.string ⟨#[]⟩) (.int .i64 0) (.int .i64 0)
      have hx9 := HX5.out.all5 (.int .i64 0) (.int .i64 0) (.string ⟨#[]⟩) (.int .i64 0) (.int .i64 0)
      clear c0 c1 c2 c3 c4 z0 z1 z2 z3 z4 HD5 HM5 HX5
      generalize (((((w5.setCell ⟨w.heap.size, 0, none⟩ (.int .i64 0)).setCell ⟨w.heap.size, 1, none⟩ (.int .i64 0)).setCell ⟨w.heap.size, 2, none⟩ (.string ⟨#[]⟩)).setCell ⟨w.heap.size, 3, none⟩ (.int .i64 0)).setCell ⟨w.heap.size, 4, none⟩ (.int .i64 0)) = w9 at *
      have c0 := hx9.blk.c 0 _ rfl; have c1 := hx9.blk.c 1 _ rfl; have c2 := hx9.blk.c 2 _ rfl; have c3 := hx9.blk.c 3 _ rfl; have c4 := hx9.blk.c 4 _ rfl
      refine bodyPost_ret (v := .tuple #[.agg #[.int .i64 0, .int .i64 0, .string ⟨#[]⟩, .int .i64 0, .int .i64 0], .int .i64 14]) (by simp [results, Tryz.results55, go_sem, c0, c1, c2, c3, c4]) rfl ⟨vz, 14, S1, n1, ov1, rfl, by rw [HBD.out]; obtain ⟨rfl, rfl, rfl⟩ := HAA.out; exact Ans.er (by rw [bnd_ok HXX.out]; exact chk_no HR.out _ _) rfl (by decide), hd9, hm9⟩
set_option maxRecDepth 100000 in
set_option maxHeartbeats 1000000 in
theorem deed_neg {d : Nat} (HD : DoC (ev d) d) : DeedC d 7 41 := by
  intro w0 A c E b l S n ov w k r hcx hd hg hkl ho hrn hx hd24
  have HBD : Hid (body (ev d) (nd l k) (l.drop (k + 1)) S n = bnd (prt (ev d) [-1] (l.drop (k + 1))) (af 7) S n) := by show _ = _; exact congrFun (congrFun (body_prt ho (by decide) (by decide) (by decide) (by decide) (by decide) (by decide)) S) n
  have HP := Lib.hid (pre_any HD [-1] (by decide) (by decide) (by decide) hcx hd hg hkl hx (by decide) hd24)
  clear hcx hd hg ho hrn hx hd24 HD
  go_enter Tryz.func41, Tryz.ntmps41
  go_wp2_with (fail)
  refine (HP.out).mono ?_
  rintro e w3 ⟨p0, p1, p2, x, S1, n1, ov1, rfl, ha, r0, r1, r2, hgd, hd3, hm3, hx3⟩
  have HA := Lib.hid ha; have R0 := Lib.hid r0; have R1 := Lib.hid r1; have R2 := Lib.hid r2; have HG := Lib.hid hgd; have HD3 := Lib.hid hd3; have HM3 := Lib.hid hm3; have HX3 := Lib.hid hx3
  have HPB : Hid (Box w0 b E ov1 w3.heap.size [.int .i64 p0.k, .int .i64 p0.n, .string (tx p0.s), .int .i64 p0.x, .int .i64 p0.y, .int .i64 p1.k, .int .i64 p1.n, .string (tx p1.s), .int .i64 p1.x, .int .i64 p1.y, .int .i64 p2.k, .int .i64 p2.n, .string (tx p2.s), .int .i64 p2.x, .int .i64 p2.y] (w3.alloc (.cells #[.int .i64 p0.k, .int .i64 p0.n, .string (tx p0.s), .int .i64 p0.x, .int .i64 p0.y, .int .i64 p1.k, .int .i64 p1.n, .string (tx p1.s), .int .i64 p1.x, .int .i64 p1.y, .int .i64 p2.k, .int .i64 p2.n, .string (tx p2.s), .int .i64 p2.x, .int .i64 p2.y] 106))) := Box.made hd3 (by omega) 106 [.int .i64 p0.k, .int .i64 p0.n, .string (tx p0.s), .int .i64 p0.x, .int .i64 p0.y, .int .i64 p1.k, .int .i64 p1.n, .string (tx p1.s), .int .i64 p1.x, .int .i64 p1.y, .int .i64 p2.k, .int .i64 p2.n, .string (tx p2.s), .int .i64 p2.x, .int .i64 p2.y]
  have hlZ := hx3.blk.lt
  clear ha r0 r1 r2 hgd hd3 hm3 hx3 HP
  rcases HA.out.cases with ⟨hx0, hX⟩ | ⟨rfl, a, ha, hX⟩
  · have HX0 := Lib.hid hx0; have HXX := Lib.hid hX
    have hx1 : (x == 0) = false := by simpa using hx0
    have hx2 : (x != 0) = true := by simpa using hx0
    clear hx0 hX HA 
    have c0 := HX3.out.blk.v0; have c1 := HX3.out.blk.v1; have c2 := HX3.out.blk.v2; have c3 := HX3.out.blk.v3; have c4 := HX3.out.blk.v4
    have z0 := HX3.out.blk.g0; have z1 := HX3.out.blk.g1; have z2 := HX3.out.blk.g2; have z3 := HX3.out.blk.g3; have z4 := HX3.out.blk.g4
    go_wp2_with (fail)
    have hd9 := (HD3.out.all5 HX3.out (.int .i64 0) (.int .i64 0) (.string ⟨#[]⟩) (.int .i64 0) (.int .i64 0)).old (box1 _ (.cells #[.int .i64 p0.k, .int .i64 p0.n, .string (tx p0.s), .int .i64 p0.x, .int .i64 p0.y, .int .i64 p1.k, .int .i64 p1.n, .string (tx p1.s), .int .i64 p1.x, .int .i64 p1.y, .int .i64 p2.k, .int .i64 p2.n, .string (tx p2.s), .int .i64 p2.x, .int .i64 p2.y] 106))
    have hm9 := (HM3.out.all5 (Nat.le_refl _) (.int .i64 0) (.int .i64 0) (.string ⟨#[]⟩) (.int .i64 0) (.int .i64 0)).old (box1 _ (.cells #[.int .i64 p0.k, .int .i64 p0.n, .string (tx p0.s), .int .i64 p0.x, .int .i64 p0.y, .int .i64 p1.k, .int .i64 p1.n, .string (tx p1.s), .int .i64 p1.x, .int .i64 p1.y, .int .i64 p2.k, .int .i64 p2.n, .string (tx p2.s), .int .i64 p2.x, .int .i64 p2.y] 106))
    have hx9 := (HX3.out.all5 (.int .i64 0) (.int .i64 0) (.string ⟨#[]⟩) (.int .i64 0) (.int .i64 0)).old (box1 _ (.cells #[.int .i64 p0.k, .int .i64 p0.n, .string (tx p0.s), .int .i64 p0.x, .int .i64 p0.y, .int .i64 p1.k, .int .i64 p1.n, .string (tx p1.s), .int .i64 p1.x, .int .i64 p1.y, .int .i64 p2.k, .int .i64 p2.n, .string (tx p2.s), .int .i64 p2.x, .int .i64 p2.y] 106))
    clear c0 c1 c2 c3 c4 z0 z1 z2 z3 z4 HD3 HM3 HX3
    generalize (((((w3.setCell ⟨w.heap.size, 0, none⟩ (.int .i64 0)).setCell ⟨w.heap.size, 1, none⟩ (.int .i64 0)).setCell ⟨w.heap.size, 2, none⟩ (.string ⟨#[]⟩)).setCell ⟨w.heap.size, 3, none⟩ (.int .i64 0)).setCell ⟨w.heap.size, 4, none⟩ (.int .i64 0)).alloc (.cells #[.int .i64 p0.k, .int .i64 p0.n, .string (tx p0.s), .int .i64 p0.x, .int .i64 p0.y, .int .i64 p1.k, .int .i64 p1.n, .string (tx p1.s), .int .i64 p1.x, .int .i64 p1.y, .int .i64 p2.k, .int .i64 p2.n, .string (tx p2.s), .int .i64 p2.x, .int .i64 p2.y] 106) = w9 at *
    have c0 := hx9.blk.c 0 _ rfl; have c1 := hx9.blk.c 1 _ rfl; have c2 := hx9.blk.c 2 _ rfl; have c3 := hx9.blk.c 3 _ rfl; have c4 := hx9.blk.c 4 _ rfl
    refine bodyPost_ret (v := .tuple #[.agg #[.int .i64 0, .int .i64 0, .string ⟨#[]⟩, .int .i64 0, .int .i64 0], .int .i64 x]) (by simp [results, Tryz.results41, go_sem, c0, c1, c2, c3, c4]) rfl ⟨vz, x, S1, n1, ov1, rfl, by rw [HBD.out]; exact Ans.er (bnd_er HXX.out) rfl HX0.out, hd9, hm9⟩
  · have HXX := Lib.hid hX; have HAA := Lib.hid ha; have HGD := Lib.hid (HG.out rfl)
    clear hX ha HA HG
    have hn := (rt_all R0.out).1; have hp := rb_yes (rt_all R0.out).2.2.1
    unfold pt at hp
    dsimp only at hp
    obtain ⟨hn1, hn2⟩ := hn; obtain ⟨⟨hp1, hp2⟩, hp3, hp4⟩ := hp
    by_cases hk : p0.k = 0
    · have hk1 : (p0.k == 0) = true := by simpa using hk
      have HK := Lib.hid hk; clear hk
      go_wp2_with (fail)
      refine (enumber_any _ _).mono ?_
      rintro e w4 ⟨rfl, hb⟩
      have HD4 := Lib.hid ((HD3.out.old (box1 w3 _)).old hb); have HM4 := Lib.hid ((HM3.out.old (box1 w3 _)).old hb); have HX4 := Lib.hid ((HX3.out.old (box1 w3 _)).old hb); have HPB4 := Lib.hid (HPB.out.old hb)
      clear hb HD3 HM3 HX3 HPB 
      have c0 := HX4.out.blk.v0; have c1 := HX4.out.blk.v1; have c2 := HX4.out.blk.v2; have c3 := HX4.out.blk.v3; have c4 := HX4.out.blk.v4
      have z0 := HX4.out.blk.g0; have z1 := HX4.out.blk.g1; have z2 := HX4.out.blk.g2; have z3 := HX4.out.blk.g3; have z4 := HX4.out.blk.g4
      go_wp2_with (fail)
      have hd9 := HD4.out.all5 HX4.out (.int .i64 0) (.int .i64 (-p0.n)) (.string ⟨#[]⟩) (.int .i64 0) (.int .i64 0)
      have hm9 := HM4.out.all5 (Nat.le_refl _) (.int .i64 0) (.int .i64 (-p0.n)) (.string ⟨#[]⟩) (.int .i64 0) (.int .i64 0)
      have hx9 := HX4.out.all5 (.int .i64 0) (.int .i64 (-p0.n)) (.string ⟨#[]⟩) (.int .i64 0) (.int .i64 0)
      clear c0 c1 c2 c3 c4 z0 z1 z2 z3 z4 HD4 HM4 HX4
      generalize (((((w4.setCell ⟨w.heap.size, 0, none⟩ (.int .i64 0)).setCell ⟨w.heap.size, 1, none⟩ (.int .i64 (-p0.n))).setCell ⟨w.heap.size, 2, none⟩ (.string ⟨#[]⟩)).setCell ⟨w.heap.size, 3, none⟩ (.int .i64 0)).setCell ⟨w.heap.size, 4, none⟩ (.int .i64 0)) = w9 at *
      have c0 := hx9.blk.c 0 _ rfl; have c1 := hx9.blk.c 1 _ rfl; have c2 := hx9.blk.c 2 _ rfl; have c3 := hx9.blk.c 3 _ rfl; have c4 := hx9.blk.c 4 _ rfl
      refine bodyPost_ret (v := .tuple #[.agg #[.int .i64 0, .int .i64 (-p0.n), .string ⟨#[]⟩, .int .i64 0, .int .i64 0], .int .i64 0]) (by simp [results, Tryz.results41, go_sem, c0, c1, c2, c3, c4]) rfl ⟨nv (-p0.n), 0, S1, n1, ov1, rfl, by rw [HBD.out]; obtain ⟨rfl, rfl, rfl⟩ := HAA.out; exact Ans.ok (by rw [bnd_ok HXX.out]; exact neg_int HK.out _ _) rfl, hd9, hm9⟩
    · have hk1 : (p0.k == 0) = false := by simpa using hk
      by_cases hk2 : p0.k = 2
      · have hk3 : (p0.k == 2) = true := by simpa using hk2
        have HK := Lib.hid hk2; clear hk hk2
        have HS := Lib.hid (sub_any 0 0 p0.x p0.y)
        rw [sub_right hp1 hp2 hp3 hp4] at HS
        go_wp2_with (fail)
        refine (HS.out _).mono ?_
        rintro e w4 ⟨rfl, hb⟩
        have HD4 := Lib.hid ((HD3.out.old (box1 w3 _)).old hb); have HM4 := Lib.hid ((HM3.out.old (box1 w3 _)).old hb); have HX4 := Lib.hid ((HX3.out.old (box1 w3 _)).old hb); have HPB4 := Lib.hid (HPB.out.old hb)
        clear hb HD3 HM3 HX3 HPB 
        have c0 := HX4.out.blk.v0; have c1 := HX4.out.blk.v1; have c2 := HX4.out.blk.v2; have c3 := HX4.out.blk.v3; have c4 := HX4.out.blk.v4
        have z0 := HX4.out.blk.g0; have z1 := HX4.out.blk.g1; have z2 := HX4.out.blk.g2; have z3 := HX4.out.blk.g3; have z4 := HX4.out.blk.g4
        have hlz4 := HX4.out.blk.lt
        go_wp2_with (fail)
        refine (epoint_any _ _ _).mono ?_
        rintro e w5 ⟨rfl, hb⟩
        have HD5 := Lib.hid ((HD4.out.old (box1 w4 _)).old hb); have HM5 := Lib.hid ((HM4.out.old (box1 w4 _)).old hb); have HX5 := Lib.hid ((HX4.out.old (box1 w4 _)).old hb)
        clear hb HD4 HM4 HX4 HPB4 c0 c1 c2 c3 c4 z0 z1 z2 z3 z4
        have c0 := HX5.out.blk.v0; have c1 := HX5.out.blk.v1; have c2 := HX5.out.blk.v2; have c3 := HX5.out.blk.v3; have c4 := HX5.out.blk.v4
        have z0 := HX5.out.blk.g0; have z1 := HX5.out.blk.g1; have z2 := HX5.out.blk.g2; have z3 := HX5.out.blk.g3; have z4 := HX5.out.blk.g4
        go_wp2_with (fail)
        have hd9 := HD5.out.all5 HX5.out (.int .i64 2) (.int .i64 0) (.string ⟨#[]⟩) (.int .i64 (-p0.x)) (.int .i64 (-p0.y))
        have hm9 := HM5.out.all5 (Nat.le_refl _) (.int .i64 2) (.int .i64 0) (.string ⟨#[]⟩) (.int .i64 (-p0.x)) (.int .i64 (-p0.y))
        have hx9 := HX5.out.all5 (.int .i64 2) (.int .i64 0) (.string ⟨#[]⟩) (.int .i64 (-p0.x)) (.int .i64 (-p0.y))
        clear c0 c1 c2 c3 c4 z0 z1 z2 z3 z4 HD5 HM5 HX5
        generalize (((((w5.setCell ⟨w.heap.size, 0, none⟩ (.int .i64 2)).setCell ⟨w.heap.size, 1, none⟩ (.int .i64 0)).setCell ⟨w.heap.size, 2, none⟩ (.string ⟨#[]⟩)).setCell ⟨w.heap.size, 3, none⟩ (.int .i64 (-p0.x))).setCell ⟨w.heap.size, 4, none⟩ (.int .i64 (-p0.y))) = w9 at *
        have c0 := hx9.blk.c 0 _ rfl; have c1 := hx9.blk.c 1 _ rfl; have c2 := hx9.blk.c 2 _ rfl; have c3 := hx9.blk.c 3 _ rfl; have c4 := hx9.blk.c 4 _ rfl
        refine bodyPost_ret (v := .tuple #[.agg #[.int .i64 2, .int .i64 0, .string ⟨#[]⟩, .int .i64 (-p0.x), .int .i64 (-p0.y)], .int .i64 0]) (by simp [results, Tryz.results41, go_sem, c0, c1, c2, c3, c4]) rfl ⟨pv (-p0.x) (-p0.y), 0, S1, n1, ov1, rfl, by rw [HBD.out]; obtain ⟨rfl, rfl, rfl⟩ := HAA.out; exact Ans.ok (by rw [bnd_ok HXX.out]; exact neg_point HK.out _ _) rfl, hd9, hm9⟩
      · have hk3 : (p0.k == 2) = false := by simpa using hk2
        have HK := Lib.hid (And.intro hk hk2); clear hk hk2
        have c0 := HX3.out.blk.v0; have c1 := HX3.out.blk.v1; have c2 := HX3.out.blk.v2; have c3 := HX3.out.blk.v3; have c4 := HX3.out.blk.v4
        have z0 := HX3.out.blk.g0; have z1 := HX3.out.blk.g1; have z2 := HX3.out.blk.g2; have z3 := HX3.out.blk.g3; have z4 := HX3.out.blk.g4
        go_wp2_with (fail)
        have hd9 := (HD3.out.all5 HX3.out (.int .i64 0) (.int .i64 0) (.string ⟨#[]⟩) (.int .i64 0) (.int .i64 0)).old (box1 _ (.cells #[.int .i64 p0.k, .int .i64 p0.n, .string (tx p0.s), .int .i64 p0.x, .int .i64 p0.y, .int .i64 p1.k, .int .i64 p1.n, .string (tx p1.s), .int .i64 p1.x, .int .i64 p1.y, .int .i64 p2.k, .int .i64 p2.n, .string (tx p2.s), .int .i64 p2.x, .int .i64 p2.y] 106))
        have hm9 := (HM3.out.all5 (Nat.le_refl _) (.int .i64 0) (.int .i64 0) (.string ⟨#[]⟩) (.int .i64 0) (.int .i64 0)).old (box1 _ (.cells #[.int .i64 p0.k, .int .i64 p0.n, .string (tx p0.s), .int .i64 p0.x, .int .i64 p0.y, .int .i64 p1.k, .int .i64 p1.n, .string (tx p1.s), .int .i64 p1.x, .int .i64 p1.y, .int .i64 p2.k, .int .i64 p2.n, .string (tx p2.s), .int .i64 p2.x, .int .i64 p2.y] 106))
        have hx9 := (HX3.out.all5 (.int .i64 0) (.int .i64 0) (.string ⟨#[]⟩) (.int .i64 0) (.int .i64 0)).old (box1 _ (.cells #[.int .i64 p0.k, .int .i64 p0.n, .string (tx p0.s), .int .i64 p0.x, .int .i64 p0.y, .int .i64 p1.k, .int .i64 p1.n, .string (tx p1.s), .int .i64 p1.x, .int .i64 p1.y, .int .i64 p2.k, .int .i64 p2.n, .string (tx p2.s), .int .i64 p2.x, .int .i64 p2.y] 106))
        clear c0 c1 c2 c3 c4 z0 z1 z2 z3 z4 HD3 HM3 HX3
        generalize (((((w3.setCell ⟨w.heap.size, 0, none⟩ (.int .i64 0)).setCell ⟨w.heap.size, 1, none⟩ (.int .i64 0)).setCell ⟨w.heap.size, 2, none⟩ (.string ⟨#[]⟩)).setCell ⟨w.heap.size, 3, none⟩ (.int .i64 0)).setCell ⟨w.heap.size, 4, none⟩ (.int .i64 0)).alloc (.cells #[.int .i64 p0.k, .int .i64 p0.n, .string (tx p0.s), .int .i64 p0.x, .int .i64 p0.y, .int .i64 p1.k, .int .i64 p1.n, .string (tx p1.s), .int .i64 p1.x, .int .i64 p1.y, .int .i64 p2.k, .int .i64 p2.n, .string (tx p2.s), .int .i64 p2.x, .int .i64 p2.y] 106) = w9 at *
        have c0 := hx9.blk.c 0 _ rfl; have c1 := hx9.blk.c 1 _ rfl; have c2 := hx9.blk.c 2 _ rfl; have c3 := hx9.blk.c 3 _ rfl; have c4 := hx9.blk.c 4 _ rfl
        refine bodyPost_ret (v := .tuple #[.agg #[.int .i64 0, .int .i64 0, .string ⟨#[]⟩, .int .i64 0, .int .i64 0], .int .i64 13]) (by simp [results, Tryz.results41, go_sem, c0, c1, c2, c3, c4]) rfl ⟨vz, 13, S1, n1, ov1, rfl, by rw [HBD.out]; obtain ⟨rfl, rfl, rfl⟩ := HAA.out; exact Ans.er (by rw [bnd_ok HXX.out]; exact neg_no HK.out.1 HK.out.2 _ _) rfl (by decide), hd9, hm9⟩
end Go.Proofs.YtcdjincaedpodaaGreatDoor.Ev
/-
  Numbers read (written by gen_evdeed.py).
-/
namespace Go.Proofs.YtcdjincaedpodaaGreatDoor.Ev
open Go.ChangeShapes Go.WideShapes Go.ChangeAt Go.RowKit Go.Proofs.YtcdjincaedpodaaGreatDoor.Ov Go.Proofs.YtcdjincaedpodaaGreatDoor.Va Go.Proofs.YtcdjincaedpodaaGreatDoor.Ga Go.Proofs.YtcdjincaedpodaaGreatDoor.Ex

set_option maxRecDepth 100000 in
set_option maxHeartbeats 1000000 in
theorem deed_num {d : Nat} (HD : DoC (ev d) d) : DeedC d 19 53 := by
  intro w0 A c E b l S n ov w k r hcx hd hg hkl ho hrn hx hd24
  have HBD : Hid (body (ev d) (nd l k) (l.drop (k + 1)) S n = bnd (prt (ev d) [1] (l.drop (k + 1))) (af 19) S n) := by show _ = _; exact congrFun (congrFun (body_prt ho (by decide) (by decide) (by decide) (by decide) (by decide) (by decide)) S) n
  have HP := Lib.hid (pre_any HD [1] (by decide) (by decide) (by decide) hcx hd hg hkl hx (by decide) hd24)
  clear hcx hd hg ho hrn hx hd24 HD
  go_enter Tryz.func53, Tryz.ntmps53
  go_wp2_with (fail)
  refine (HP.out).mono ?_
  rintro e w3 ⟨p0, p1, p2, x, S1, n1, ov1, rfl, ha, r0, r1, r2, hgd, hd3, hm3, hx3⟩
  have HA := Lib.hid ha; have R0 := Lib.hid r0; have R1 := Lib.hid r1; have R2 := Lib.hid r2; have HG := Lib.hid hgd; have HD3 := Lib.hid hd3; have HM3 := Lib.hid hm3; have HX3 := Lib.hid hx3
  have HPB : Hid (Box w0 b E ov1 w3.heap.size [.int .i64 p0.k, .int .i64 p0.n, .string (tx p0.s), .int .i64 p0.x, .int .i64 p0.y, .int .i64 p1.k, .int .i64 p1.n, .string (tx p1.s), .int .i64 p1.x, .int .i64 p1.y, .int .i64 p2.k, .int .i64 p2.n, .string (tx p2.s), .int .i64 p2.x, .int .i64 p2.y] (w3.alloc (.cells #[.int .i64 p0.k, .int .i64 p0.n, .string (tx p0.s), .int .i64 p0.x, .int .i64 p0.y, .int .i64 p1.k, .int .i64 p1.n, .string (tx p1.s), .int .i64 p1.x, .int .i64 p1.y, .int .i64 p2.k, .int .i64 p2.n, .string (tx p2.s), .int .i64 p2.x, .int .i64 p2.y] 106))) := Box.made hd3 (by omega) 106 [.int .i64 p0.k, .int .i64 p0.n, .string (tx p0.s), .int .i64 p0.x, .int .i64 p0.y, .int .i64 p1.k, .int .i64 p1.n, .string (tx p1.s), .int .i64 p1.x, .int .i64 p1.y, .int .i64 p2.k, .int .i64 p2.n, .string (tx p2.s), .int .i64 p2.x, .int .i64 p2.y]
  have hlZ := hx3.blk.lt
  clear ha r0 r1 r2 hgd hd3 hm3 hx3 HP
  rcases HA.out.cases with ⟨hx0, hX⟩ | ⟨rfl, a, ha, hX⟩
  · have HX0 := Lib.hid hx0; have HXX := Lib.hid hX
    have hx1 : (x == 0) = false := by simpa using hx0
    have hx2 : (x != 0) = true := by simpa using hx0
    clear hx0 hX HA 
    have c0 := HX3.out.blk.v0; have c1 := HX3.out.blk.v1; have c2 := HX3.out.blk.v2; have c3 := HX3.out.blk.v3; have c4 := HX3.out.blk.v4
    have z0 := HX3.out.blk.g0; have z1 := HX3.out.blk.g1; have z2 := HX3.out.blk.g2; have z3 := HX3.out.blk.g3; have z4 := HX3.out.blk.g4
    go_wp2_with (fail)
    have hd9 := (HD3.out.all5 HX3.out (.int .i64 0) (.int .i64 0) (.string ⟨#[]⟩) (.int .i64 0) (.int .i64 0)).old (box1 _ (.cells #[.int .i64 p0.k, .int .i64 p0.n, .string (tx p0.s), .int .i64 p0.x, .int .i64 p0.y, .int .i64 p1.k, .int .i64 p1.n, .string (tx p1.s), .int .i64 p1.x, .int .i64 p1.y, .int .i64 p2.k, .int .i64 p2.n, .string (tx p2.s), .int .i64 p2.x, .int .i64 p2.y] 106))
    have hm9 := (HM3.out.all5 (Nat.le_refl _) (.int .i64 0) (.int .i64 0) (.string ⟨#[]⟩) (.int .i64 0) (.int .i64 0)).old (box1 _ (.cells #[.int .i64 p0.k, .int .i64 p0.n, .string (tx p0.s), .int .i64 p0.x, .int .i64 p0.y, .int .i64 p1.k, .int .i64 p1.n, .string (tx p1.s), .int .i64 p1.x, .int .i64 p1.y, .int .i64 p2.k, .int .i64 p2.n, .string (tx p2.s), .int .i64 p2.x, .int .i64 p2.y] 106))
    have hx9 := (HX3.out.all5 (.int .i64 0) (.int .i64 0) (.string ⟨#[]⟩) (.int .i64 0) (.int .i64 0)).old (box1 _ (.cells #[.int .i64 p0.k, .int .i64 p0.n, .string (tx p0.s), .int .i64 p0.x, .int .i64 p0.y, .int .i64 p1.k, .int .i64 p1.n, .string (tx p1.s), .int .i64 p1.x, .int .i64 p1.y, .int .i64 p2.k, .int .i64 p2.n, .string (tx p2.s), .int .i64 p2.x, .int .i64 p2.y] 106))
    clear c0 c1 c2 c3 c4 z0 z1 z2 z3 z4 HD3 HM3 HX3
    generalize (((((w3.setCell ⟨w.heap.size, 0, none⟩ (.int .i64 0)).setCell ⟨w.heap.size, 1, none⟩ (.int .i64 0)).setCell ⟨w.heap.size, 2, none⟩ (.string ⟨#[]⟩)).setCell ⟨w.heap.size, 3, none⟩ (.int .i64 0)).setCell ⟨w.heap.size, 4, none⟩ (.int .i64 0)).alloc (.cells #[.int .i64 p0.k, .int .i64 p0.n, .string (tx p0.s), .int .i64 p0.x, .int .i64 p0.y, .int .i64 p1.k, .int .i64 p1.n, .string (tx p1.s), .int .i64 p1.x, .int .i64 p1.y, .int .i64 p2.k, .int .i64 p2.n, .string (tx p2.s), .int .i64 p2.x, .int .i64 p2.y] 106) = w9 at *
    have c0 := hx9.blk.c 0 _ rfl; have c1 := hx9.blk.c 1 _ rfl; have c2 := hx9.blk.c 2 _ rfl; have c3 := hx9.blk.c 3 _ rfl; have c4 := hx9.blk.c 4 _ rfl
    refine bodyPost_ret (v := .tuple #[.agg #[.int .i64 0, .int .i64 0, .string ⟨#[]⟩, .int .i64 0, .int .i64 0], .int .i64 x]) (by simp [results, Tryz.results53, go_sem, c0, c1, c2, c3, c4]) rfl ⟨vz, x, S1, n1, ov1, rfl, by rw [HBD.out]; exact Ans.er (bnd_er HXX.out) rfl HX0.out, hd9, hm9⟩
  · have HXX := Lib.hid hX; have HAA := Lib.hid ha; have HGD := Lib.hid (HG.out rfl)
    clear hX ha HA HG
    have h0 := (rt_all R0.out).2.1
    rw [← tx_size] at h0
    have HN := Lib.hid (parse_any (tx p0.s))
    have HZ : Hid (numOf p0.s = if (pz p0.s).2.2 = 0 ∧ (pz p0.s).2.1 = p0.s.length ∧ (pz p0.s).1.k = 0 then .inr (pz p0.s).1 else .inl 6) := Lib.hid rfl
    have hzl : (pz p0.s).2.2 = 0 → (pz p0.s).2.1 ≤ p0.s.length := fun h => by
      have := pz_ok (l := p0.s) (v := (pz p0.s).1) (z := (pz p0.s).2.1) (Prod.ext rfl (Prod.ext rfl h))
      have h1 := congrArg List.length this.2.1
      rw [List.length_append] at h1
      omega
    rw [tx_list] at HN
    generalize pz p0.s = r at *
    obtain ⟨v, z, ec⟩ := r
    unfold prv vv at HN
    dsimp only at HN HZ hzl
    have HZL := Lib.hid hzl
    clear hzl
    go_wp2_with (fail)
    refine (HN.out _ (by omega)).mono ?_
    rintro e w4 ⟨rfl, hb⟩
    have HD4 := Lib.hid ((HD3.out.old (box1 w3 _)).old hb); have HM4 := Lib.hid ((HM3.out.old (box1 w3 _)).old hb); have HX4 := Lib.hid ((HX3.out.old (box1 w3 _)).old hb); have HPB4 := Lib.hid (HPB.out.old hb)
    clear hb HD3 HM3 HX3 HPB 
    have c0 := HX4.out.blk.v0; have c1 := HX4.out.blk.v1; have c2 := HX4.out.blk.v2; have c3 := HX4.out.blk.v3; have c4 := HX4.out.blk.v4
    have z0 := HX4.out.blk.g0; have z1 := HX4.out.blk.g1; have z2 := HX4.out.blk.g2; have z3 := HX4.out.blk.g3; have z4 := HX4.out.blk.g4
    have q2 := HPB4.out.blk.c 2 _ rfl
    have hlz4 := HX4.out.blk.lt; have hpb4 := HPB4.out.blk.lt
    clear HPB4
    by_cases h1 : ec = 0
    · subst h1
      have he1 : (((0 : Nat) : Int) != 0) = false := by decide
      by_cases h2 : z < (tx p0.s).size
      · have HCC : Hid (¬ ((0 : Nat) = 0 ∧ z = p0.s.length ∧ v.k = 0)) := by show ¬ _; rintro ⟨_, h, _⟩; rw [tx_size] at h2; omega
        have hd2 : decide (z < (tx p0.s).size) = true := decide_eq_true h2
        go_wp2_with (fail)
        have hd9 := (HD4.out.all5 HX4.out (.int .i64 0) (.int .i64 0) (.string ⟨#[]⟩) (.int .i64 0) (.int .i64 0)).old (box1 _ (.cells #[.int .i64 v.k, .int .i64 v.n, .string (tx v.s), .int .i64 v.x, .int .i64 v.y] 26))
        have hm9 := (HM4.out.all5 (Nat.le_refl _) (.int .i64 0) (.int .i64 0) (.string ⟨#[]⟩) (.int .i64 0) (.int .i64 0)).old (box1 _ (.cells #[.int .i64 v.k, .int .i64 v.n, .string (tx v.s), .int .i64 v.x, .int .i64 v.y] 26))
        have hx9 := (HX4.out.all5 (.int .i64 0) (.int .i64 0) (.string ⟨#[]⟩) (.int .i64 0) (.int .i64 0)).old (box1 _ (.cells #[.int .i64 v.k, .int .i64 v.n, .string (tx v.s), .int .i64 v.x, .int .i64 v.y] 26))
        clear c0 c1 c2 c3 c4 z0 z1 z2 z3 z4 q2 HD4 HM4 HX4
        generalize (((((w4.setCell ⟨w.heap.size, 0, none⟩ (.int .i64 0)).setCell ⟨w.heap.size, 1, none⟩ (.int .i64 0)).setCell ⟨w.heap.size, 2, none⟩ (.string ⟨#[]⟩)).setCell ⟨w.heap.size, 3, none⟩ (.int .i64 0)).setCell ⟨w.heap.size, 4, none⟩ (.int .i64 0)).alloc (.cells #[.int .i64 v.k, .int .i64 v.n, .string (tx v.s), .int .i64 v.x, .int .i64 v.y] 26) = w9 at *
        have c0 := hx9.blk.c 0 _ rfl; have c1 := hx9.blk.c 1 _ rfl; have c2 := hx9.blk.c 2 _ rfl; have c3 := hx9.blk.c 3 _ rfl; have c4 := hx9.blk.c 4 _ rfl
        refine bodyPost_ret (v := .tuple #[.agg #[.int .i64 0, .int .i64 0, .string ⟨#[]⟩, .int .i64 0, .int .i64 0], .int .i64 6]) (by simp [results, Tryz.results53, go_sem, c0, c1, c2, c3, c4]) rfl ⟨vz, 6, S1, n1, ov1, rfl, by rw [HBD.out]; obtain ⟨rfl, rfl, rfl⟩ := HAA.out; exact Ans.er (by rw [bnd_ok HXX.out]; show lift (numOf (at0 a).s) S1 n1 = _; rw [HZ.out, if_neg HCC.out]; rfl) rfl (by decide), hd9, hm9⟩
      · have hz1 : z = p0.s.length := by have := HZL.out rfl; rw [tx_size] at h2; omega
        have hd2 : decide (z < (tx p0.s).size) = false := decide_eq_false h2
        by_cases h3 : v.k = 0
        · have h4 : (v.k != 0) = false := by simpa using h3
          have HCC : Hid ((0 : Nat) = 0 ∧ z = p0.s.length ∧ v.k = 0) := ⟨rfl, hz1, h3⟩
          clear hz1 h3
          go_wp2_with (fail)
          have hd9 := (HD4.out.all5 HX4.out (.int .i64 v.k) (.int .i64 v.n) (.string (tx v.s)) (.int .i64 v.x) (.int .i64 v.y)).old (box1 _ (.cells #[.int .i64 v.k, .int .i64 v.n, .string (tx v.s), .int .i64 v.x, .int .i64 v.y] 26))
          have hm9 := (HM4.out.all5 (Nat.le_refl _) (.int .i64 v.k) (.int .i64 v.n) (.string (tx v.s)) (.int .i64 v.x) (.int .i64 v.y)).old (box1 _ (.cells #[.int .i64 v.k, .int .i64 v.n, .string (tx v.s), .int .i64 v.x, .int .i64 v.y] 26))
          have hx9 := (HX4.out.all5 (.int .i64 v.k) (.int .i64 v.n) (.string (tx v.s)) (.int .i64 v.x) (.int .i64 v.y)).old (box1 _ (.cells #[.int .i64 v.k, .int .i64 v.n, .string (tx v.s), .int .i64 v.x, .int .i64 v.y] 26))
          clear c0 c1 c2 c3 c4 z0 z1 z2 z3 z4 q2 HD4 HM4 HX4
          generalize (((((w4.setCell ⟨w.heap.size, 0, none⟩ (.int .i64 v.k)).setCell ⟨w.heap.size, 1, none⟩ (.int .i64 v.n)).setCell ⟨w.heap.size, 2, none⟩ (.string (tx v.s))).setCell ⟨w.heap.size, 3, none⟩ (.int .i64 v.x)).setCell ⟨w.heap.size, 4, none⟩ (.int .i64 v.y)).alloc (.cells #[.int .i64 v.k, .int .i64 v.n, .string (tx v.s), .int .i64 v.x, .int .i64 v.y] 26) = w9 at *
          have c0 := hx9.blk.c 0 _ rfl; have c1 := hx9.blk.c 1 _ rfl; have c2 := hx9.blk.c 2 _ rfl; have c3 := hx9.blk.c 3 _ rfl; have c4 := hx9.blk.c 4 _ rfl
          refine bodyPost_ret (v := .tuple #[.agg #[.int .i64 v.k, .int .i64 v.n, .string (tx v.s), .int .i64 v.x, .int .i64 v.y], .int .i64 0]) (by simp [results, Tryz.results53, go_sem, c0, c1, c2, c3, c4]) rfl ⟨v, 0, S1, n1, ov1, rfl, by rw [HBD.out]; obtain ⟨rfl, rfl, rfl⟩ := HAA.out; exact Ans.ok (by rw [bnd_ok HXX.out]; show lift (numOf (at0 a).s) S1 n1 = _; rw [HZ.out, if_pos HCC.out]; rfl) rfl, hd9, hm9⟩
        · have h4 : (v.k != 0) = true := by simpa using h3
          have HCC : Hid (¬ ((0 : Nat) = 0 ∧ z = p0.s.length ∧ v.k = 0)) := by show ¬ _; rintro ⟨_, _, h⟩; exact h3 h
          clear hz1 h3
          go_wp2_with (fail)
          have hd9 := (HD4.out.all5 HX4.out (.int .i64 0) (.int .i64 0) (.string ⟨#[]⟩) (.int .i64 0) (.int .i64 0)).old (box1 _ (.cells #[.int .i64 v.k, .int .i64 v.n, .string (tx v.s), .int .i64 v.x, .int .i64 v.y] 26))
          have hm9 := (HM4.out.all5 (Nat.le_refl _) (.int .i64 0) (.int .i64 0) (.string ⟨#[]⟩) (.int .i64 0) (.int .i64 0)).old (box1 _ (.cells #[.int .i64 v.k, .int .i64 v.n, .string (tx v.s), .int .i64 v.x, .int .i64 v.y] 26))
          have hx9 := (HX4.out.all5 (.int .i64 0) (.int .i64 0) (.string ⟨#[]⟩) (.int .i64 0) (.int .i64 0)).old (box1 _ (.cells #[.int .i64 v.k, .int .i64 v.n, .string (tx v.s), .int .i64 v.x, .int .i64 v.y] 26))
          clear c0 c1 c2 c3 c4 z0 z1 z2 z3 z4 q2 HD4 HM4 HX4
          generalize (((((w4.setCell ⟨w.heap.size, 0, none⟩ (.int .i64 0)).setCell ⟨w.heap.size, 1, none⟩ (.int .i64 0)).setCell ⟨w.heap.size, 2, none⟩ (.string ⟨#[]⟩)).setCell ⟨w.heap.size, 3, none⟩ (.int .i64 0)).setCell ⟨w.heap.size, 4, none⟩ (.int .i64 0)).alloc (.cells #[.int .i64 v.k, .int .i64 v.n, .string (tx v.s), .int .i64 v.x, .int .i64 v.y] 26) = w9 at *
          have c0 := hx9.blk.c 0 _ rfl; have c1 := hx9.blk.c 1 _ rfl; have c2 := hx9.blk.c 2 _ rfl; have c3 := hx9.blk.c 3 _ rfl; have c4 := hx9.blk.c 4 _ rfl
          refine bodyPost_ret (v := .tuple #[.agg #[.int .i64 0, .int .i64 0, .string ⟨#[]⟩, .int .i64 0, .int .i64 0], .int .i64 6]) (by simp [results, Tryz.results53, go_sem, c0, c1, c2, c3, c4]) rfl ⟨vz, 6, S1, n1, ov1, rfl, by rw [HBD.out]; obtain ⟨rfl, rfl, rfl⟩ := HAA.out; exact Ans.er (by rw [bnd_ok HXX.out]; show lift (numOf (at0 a).s) S1 n1 = _; rw [HZ.out, if_neg HCC.out]; rfl) rfl (by decide), hd9, hm9⟩
    · have he1 : ((ec : Int) != 0) = true := by rw [bne_iff_ne]; omega
      have HCC : Hid (¬ (ec = 0 ∧ z = p0.s.length ∧ v.k = 0)) := by show ¬ _; rintro ⟨h, _⟩; exact h1 h
      go_wp2_with (fail)
      have hd9 := (HD4.out.all5 HX4.out (.int .i64 0) (.int .i64 0) (.string ⟨#[]⟩) (.int .i64 0) (.int .i64 0)).old (box1 _ (.cells #[.int .i64 v.k, .int .i64 v.n, .string (tx v.s), .int .i64 v.x, .int .i64 v.y] 26))
      have hm9 := (HM4.out.all5 (Nat.le_refl _) (.int .i64 0) (.int .i64 0) (.string ⟨#[]⟩) (.int .i64 0) (.int .i64 0)).old (box1 _ (.cells #[.int .i64 v.k, .int .i64 v.n, .string (tx v.s), .int .i64 v.x, .int .i64 v.y] 26))
      have hx9 := (HX4.out.all5 (.int .i64 0) (.int .i64 0) (.string ⟨#[]⟩) (.int .i64 0) (.int .i64 0)).old (box1 _ (.cells #[.int .i64 v.k, .int .i64 v.n, .string (tx v.s), .int .i64 v.x, .int .i64 v.y] 26))
      clear c0 c1 c2 c3 c4 z0 z1 z2 z3 z4 q2 HD4 HM4 HX4
      generalize (((((w4.setCell ⟨w.heap.size, 0, none⟩ (.int .i64 0)).setCell ⟨w.heap.size, 1, none⟩ (.int .i64 0)).setCell ⟨w.heap.size, 2, none⟩ (.string ⟨#[]⟩)).setCell ⟨w.heap.size, 3, none⟩ (.int .i64 0)).setCell ⟨w.heap.size, 4, none⟩ (.int .i64 0)).alloc (.cells #[.int .i64 v.k, .int .i64 v.n, .string (tx v.s), .int .i64 v.x, .int .i64 v.y] 26) = w9 at *
      have c0 := hx9.blk.c 0 _ rfl; have c1 := hx9.blk.c 1 _ rfl; have c2 := hx9.blk.c 2 _ rfl; have c3 := hx9.blk.c 3 _ rfl; have c4 := hx9.blk.c 4 _ rfl
      refine bodyPost_ret (v := .tuple #[.agg #[.int .i64 0, .int .i64 0, .string ⟨#[]⟩, .int .i64 0, .int .i64 0], .int .i64 6]) (by simp [results, Tryz.results53, go_sem, c0, c1, c2, c3, c4]) rfl ⟨vz, 6, S1, n1, ov1, rfl, by rw [HBD.out]; obtain ⟨rfl, rfl, rfl⟩ := HAA.out; exact Ans.er (by rw [bnd_ok HXX.out]; show lift (numOf (at0 a).s) S1 n1 = _; rw [HZ.out, if_neg HCC.out]; rfl) rfl (by decide), hd9, hm9⟩
end Go.Proofs.YtcdjincaedpodaaGreatDoor.Ev
/-
  Two parts of one kind (written by gen_evalike.py).
-/
namespace Go.Proofs.YtcdjincaedpodaaGreatDoor.Ev
open Go.ChangeShapes Go.WideShapes Go.ChangeAt Go.RowKit Go.Proofs.YtcdjincaedpodaaGreatDoor.Ov Go.Proofs.YtcdjincaedpodaaGreatDoor.Va Go.Proofs.YtcdjincaedpodaaGreatDoor.Ga Go.Proofs.YtcdjincaedpodaaGreatDoor.Ex

/-- Two parts of one kind. -/
def alk (l : List Va) : M (List Va) := if (at0 l).k ≠ (at1 l).k then fail 13 else ret l
def Al (X : Rs (List Va)) (w0 : World) (A : Option Addr) (c E b : Nat) (l : List No) (ov : Value) (w : World) (e : Ending) (w' : World) : Prop :=
  ∃ (p q : Va) (x : Int) (S' : St) (n' : Nat) (ov' : Value), e = .returned (.tuple #[.agg #[.int .i64 p.k, .int .i64 p.n, .string (tx p.s), .int .i64 p.x, .int .i64 p.y], .agg #[.int .i64 q.k, .int .i64 q.n, .string (tx q.s), .int .i64 q.x, .int .i64 q.y], .int .i64 x]) ∧ Ans X (fun a => p = at0 a ∧ q = at1 a ∧ p.k = q.k) x S' n' ∧ rt p = true ∧ rt q = true ∧ (x = 0 → Gd S' n') ∧ Doer w0 A c E b l S' n' ov' w' ∧ Mv b ov w ov' w'
theorem alk_ok {l : List Va} (h : (at0 l).k = (at1 l).k) (S : St) (n : Nat) : alk l S n = .ok l S n := by unfold alk; rw [if_neg (fun e => e h)]; rfl
theorem alk_no {l : List Va} (h : (at0 l).k ≠ (at1 l).k) (S : St) (n : Nat) : alk l S n = .er 13 := by unfold alk; rw [if_pos h]; rfl
set_option maxRecDepth 100000 in
set_option maxHeartbeats 2000000 in
theorem alike_any {d : Nat} (HD : DoC (ev d) d) {w0 : World} {A : Option Addr} {c E b : Nat} {l : List No} {S : St} {n : Nat} {ov : Value} {w : World} {k m : Nat} {r : List No}
    (hcx : Cx w0 A l) (hd : Doer w0 A c E b l S n ov w) (hg : Gd S n) (hkl : k < l.length) (hx : it (ex d) m (l.drop (k + 1)) = some r) (hm : 2 ≤ m) (hd24 : d ≤ 24) :
    Calls Tryz.prog 94 #[.pointer (some ⟨b, 0, none⟩), .int .i64 (k : Int)] w (Al (bnd (prt (ev d) [-1, -1] (l.drop (k + 1))) alk S n) w0 A c E b l ov w) := by
  have hb0 : Box w0 b E ov w.heap.size [.int .i64 0, .int .i64 0, .string ⟨#[]⟩, .int .i64 0, .int .i64 0] (w.alloc vbox) := Box.made hd (by omega) 26 [.int .i64 0, .int .i64 0, .string ⟨#[]⟩, .int .i64 0, .int .i64 0]
  have hm0 : Mv b ov w ov (w.alloc vbox) := Mv.of (box1 w vbox)
  have HP := Lib.hid (pre_any HD [-1, -1] (by decide) (by decide) (by decide) hcx (hd.old (box1 w vbox)) hg hkl hx hm hd24)
  have HB0 := Lib.hid hb0; have HM0 := Lib.hid hm0
  have HSZ : Hid ((w.alloc vbox).heap.size = w.heap.size + 1) := World.size_alloc _ _
  rw [HSZ.out] at HP
  obtain ⟨X, hX⟩ : ∃ X, bnd (prt (ev d) [-1, -1] (l.drop (k + 1))) alk S n = X := ⟨_, rfl⟩
  have HXE := Lib.hid hX
  rw [hX]
  clear hcx hd hg hx hm hd24 HD hb0 hm0 hX
  go_enter Tryz.func94, Tryz.ntmps94
  go_wp2_with (fail)
  refine (HP.out).mono ?_
  rintro e w3 ⟨p0, p1, p2, x, S1, n1, ov1, rfl, ha, r0, r1, r2, hgd, hd3, hm3, hx3⟩
  have HA := Lib.hid ha; have R0 := Lib.hid r0; have R1 := Lib.hid r1; have HG := Lib.hid hgd; have HD3 := Lib.hid hd3
  rw [HSZ.out] at hx3
  have HY3 := Lib.hid hx3; have HX3 := Lib.hid (HB0.out.mv hm3); have HM3 := Lib.hid (HM0.out.trans hm3)
  have hlZ := HX3.out.blk.lt; have hlY := HY3.out.blk.lt
  clear ha r0 r1 r2 hgd hd3 hm3 hx3 HP HB0 HM0 HSZ
  rcases HA.out.cases with ⟨hx0, hX⟩ | ⟨rfl, a, ha, hX⟩
  · have HX0 := Lib.hid hx0; have HXX := Lib.hid hX
    have hx1 : (x == 0) = false := by simpa using hx0
    have hx2 : (x != 0) = true := by simpa using hx0
    clear hx0 hX HA
    have cX0 := HX3.out.blk.c 0 _ rfl; have zX0 := HX3.out.blk.f 0 _ rfl
    have cX1 := HX3.out.blk.c 1 _ rfl; have zX1 := HX3.out.blk.f 1 _ rfl
    have cX2 := HX3.out.blk.c 2 _ rfl; have zX2 := HX3.out.blk.f 2 _ rfl
    have cX3 := HX3.out.blk.c 3 _ rfl; have zX3 := HX3.out.blk.f 3 _ rfl
    have cX4 := HX3.out.blk.c 4 _ rfl; have zX4 := HX3.out.blk.f 4 _ rfl
    have hltX := HX3.out.blk.lt
    have cY0 := HY3.out.blk.c 0 _ rfl; have zY0 := HY3.out.blk.f 0 _ rfl
    have cY1 := HY3.out.blk.c 1 _ rfl; have zY1 := HY3.out.blk.f 1 _ rfl
    have cY2 := HY3.out.blk.c 2 _ rfl; have zY2 := HY3.out.blk.f 2 _ rfl
    have cY3 := HY3.out.blk.c 3 _ rfl; have zY3 := HY3.out.blk.f 3 _ rfl
    have cY4 := HY3.out.blk.c 4 _ rfl; have zY4 := HY3.out.blk.f 4 _ rfl
    have hltY := HY3.out.blk.lt
    go_wp2_with (fail)
    have hd9 := (((HD3.out.puts HX3.out 0 [.int .i64 0, .int .i64 0, .string ⟨#[]⟩, .int .i64 0, .int .i64 0]).puts (Box.puts_other (C := w.heap.size) (HY3.out) (by omega) 0 [.int .i64 0, .int .i64 0, .string ⟨#[]⟩, .int .i64 0, .int .i64 0]) 0 [.int .i64 0, .int .i64 0, .string ⟨#[]⟩, .int .i64 0, .int .i64 0]).old (box1 _ (.cells #[.int .i64 p0.k, .int .i64 p0.n, .string (tx p0.s), .int .i64 p0.x, .int .i64 p0.y, .int .i64 p1.k, .int .i64 p1.n, .string (tx p1.s), .int .i64 p1.x, .int .i64 p1.y, .int .i64 p2.k, .int .i64 p2.n, .string (tx p2.s), .int .i64 p2.x, .int .i64 p2.y] 106)))
    have hm9 := ((Mv.puts (B := w.heap.size + 1) (Mv.puts (B := w.heap.size) HM3.out (by omega) 0 [.int .i64 0, .int .i64 0, .string ⟨#[]⟩, .int .i64 0, .int .i64 0]) (by omega) 0 [.int .i64 0, .int .i64 0, .string ⟨#[]⟩, .int .i64 0, .int .i64 0]).old (box1 _ (.cells #[.int .i64 p0.k, .int .i64 p0.n, .string (tx p0.s), .int .i64 p0.x, .int .i64 p0.y, .int .i64 p1.k, .int .i64 p1.n, .string (tx p1.s), .int .i64 p1.x, .int .i64 p1.y, .int .i64 p2.k, .int .i64 p2.n, .string (tx p2.s), .int .i64 p2.x, .int .i64 p2.y] 106)))
    have hxX := ((Box.puts_other (C := w.heap.size + 1) ((Box.puts (HX3.out) [.int .i64 0, .int .i64 0, .string ⟨#[]⟩, .int .i64 0, .int .i64 0] rfl)) (by omega) 0 [.int .i64 0, .int .i64 0, .string ⟨#[]⟩, .int .i64 0, .int .i64 0]).old (box1 _ (.cells #[.int .i64 p0.k, .int .i64 p0.n, .string (tx p0.s), .int .i64 p0.x, .int .i64 p0.y, .int .i64 p1.k, .int .i64 p1.n, .string (tx p1.s), .int .i64 p1.x, .int .i64 p1.y, .int .i64 p2.k, .int .i64 p2.n, .string (tx p2.s), .int .i64 p2.x, .int .i64 p2.y] 106)))
    have hxY := ((Box.puts ((Box.puts_other (C := w.heap.size) (HY3.out) (by omega) 0 [.int .i64 0, .int .i64 0, .string ⟨#[]⟩, .int .i64 0, .int .i64 0])) [.int .i64 0, .int .i64 0, .string ⟨#[]⟩, .int .i64 0, .int .i64 0] rfl).old (box1 _ (.cells #[.int .i64 p0.k, .int .i64 p0.n, .string (tx p0.s), .int .i64 p0.x, .int .i64 p0.y, .int .i64 p1.k, .int .i64 p1.n, .string (tx p1.s), .int .i64 p1.x, .int .i64 p1.y, .int .i64 p2.k, .int .i64 p2.n, .string (tx p2.s), .int .i64 p2.x, .int .i64 p2.y] 106)))
    clear cX0 zX0 cX1 zX1 cX2 zX2 cX3 zX3 cX4 zX4 cY0 zY0 cY1 zY1 cY2 zY2 cY3 zY3 cY4 zY4 HD3 HM3 HX3 HY3 
    change bodyPost _ _ _ _ _ (((((((((((w3.setCell ⟨w.heap.size, 0, none⟩ (.int .i64 0)).setCell ⟨w.heap.size, 1, none⟩ (.int .i64 0)).setCell ⟨w.heap.size, 2, none⟩ (.string ⟨#[]⟩)).setCell ⟨w.heap.size, 3, none⟩ (.int .i64 0)).setCell ⟨w.heap.size, 4, none⟩ (.int .i64 0)).setCell ⟨w.heap.size + 1, 0, none⟩ (.int .i64 0)).setCell ⟨w.heap.size + 1, 1, none⟩ (.int .i64 0)).setCell ⟨w.heap.size + 1, 2, none⟩ (.string ⟨#[]⟩)).setCell ⟨w.heap.size + 1, 3, none⟩ (.int .i64 0)).setCell ⟨w.heap.size + 1, 4, none⟩ (.int .i64 0)).alloc (.cells #[.int .i64 p0.k, .int .i64 p0.n, .string (tx p0.s), .int .i64 p0.x, .int .i64 p0.y, .int .i64 p1.k, .int .i64 p1.n, .string (tx p1.s), .int .i64 p1.x, .int .i64 p1.y, .int .i64 p2.k, .int .i64 p2.n, .string (tx p2.s), .int .i64 p2.x, .int .i64 p2.y] 106))
    change Doer _ _ _ _ _ _ _ _ _ ((((((((((((w3.setCell ⟨w.heap.size, 0, none⟩ (.int .i64 0)).setCell ⟨w.heap.size, 1, none⟩ (.int .i64 0)).setCell ⟨w.heap.size, 2, none⟩ (.string ⟨#[]⟩)).setCell ⟨w.heap.size, 3, none⟩ (.int .i64 0)).setCell ⟨w.heap.size, 4, none⟩ (.int .i64 0)).setCell ⟨w.heap.size + 1, 0, none⟩ (.int .i64 0)).setCell ⟨w.heap.size + 1, 1, none⟩ (.int .i64 0)).setCell ⟨w.heap.size + 1, 2, none⟩ (.string ⟨#[]⟩)).setCell ⟨w.heap.size + 1, 3, none⟩ (.int .i64 0)).setCell ⟨w.heap.size + 1, 4, none⟩ (.int .i64 0)).alloc (.cells #[.int .i64 p0.k, .int .i64 p0.n, .string (tx p0.s), .int .i64 p0.x, .int .i64 p0.y, .int .i64 p1.k, .int .i64 p1.n, .string (tx p1.s), .int .i64 p1.x, .int .i64 p1.y, .int .i64 p2.k, .int .i64 p2.n, .string (tx p2.s), .int .i64 p2.x, .int .i64 p2.y] 106))) at hd9
    change Mv _ _ _ _ ((((((((((((w3.setCell ⟨w.heap.size, 0, none⟩ (.int .i64 0)).setCell ⟨w.heap.size, 1, none⟩ (.int .i64 0)).setCell ⟨w.heap.size, 2, none⟩ (.string ⟨#[]⟩)).setCell ⟨w.heap.size, 3, none⟩ (.int .i64 0)).setCell ⟨w.heap.size, 4, none⟩ (.int .i64 0)).setCell ⟨w.heap.size + 1, 0, none⟩ (.int .i64 0)).setCell ⟨w.heap.size + 1, 1, none⟩ (.int .i64 0)).setCell ⟨w.heap.size + 1, 2, none⟩ (.string ⟨#[]⟩)).setCell ⟨w.heap.size + 1, 3, none⟩ (.int .i64 0)).setCell ⟨w.heap.size + 1, 4, none⟩ (.int .i64 0)).alloc (.cells #[.int .i64 p0.k, .int .i64 p0.n, .string (tx p0.s), .int .i64 p0.x, .int .i64 p0.y, .int .i64 p1.k, .int .i64 p1.n, .string (tx p1.s), .int .i64 p1.x, .int .i64 p1.y, .int .i64 p2.k, .int .i64 p2.n, .string (tx p2.s), .int .i64 p2.x, .int .i64 p2.y] 106))) at hm9
    change Box _ _ _ _ _ _ ((((((((((((w3.setCell ⟨w.heap.size, 0, none⟩ (.int .i64 0)).setCell ⟨w.heap.size, 1, none⟩ (.int .i64 0)).setCell ⟨w.heap.size, 2, none⟩ (.string ⟨#[]⟩)).setCell ⟨w.heap.size, 3, none⟩ (.int .i64 0)).setCell ⟨w.heap.size, 4, none⟩ (.int .i64 0)).setCell ⟨w.heap.size + 1, 0, none⟩ (.int .i64 0)).setCell ⟨w.heap.size + 1, 1, none⟩ (.int .i64 0)).setCell ⟨w.heap.size + 1, 2, none⟩ (.string ⟨#[]⟩)).setCell ⟨w.heap.size + 1, 3, none⟩ (.int .i64 0)).setCell ⟨w.heap.size + 1, 4, none⟩ (.int .i64 0)).alloc (.cells #[.int .i64 p0.k, .int .i64 p0.n, .string (tx p0.s), .int .i64 p0.x, .int .i64 p0.y, .int .i64 p1.k, .int .i64 p1.n, .string (tx p1.s), .int .i64 p1.x, .int .i64 p1.y, .int .i64 p2.k, .int .i64 p2.n, .string (tx p2.s), .int .i64 p2.x, .int .i64 p2.y] 106))) at hxX
    change Box _ _ _ _ _ _ ((((((((((((w3.setCell ⟨w.heap.size, 0, none⟩ (.int .i64 0)).setCell ⟨w.heap.size, 1, none⟩ (.int .i64 0)).setCell ⟨w.heap.size, 2, none⟩ (.string ⟨#[]⟩)).setCell ⟨w.heap.size, 3, none⟩ (.int .i64 0)).setCell ⟨w.heap.size, 4, none⟩ (.int .i64 0)).setCell ⟨w.heap.size + 1, 0, none⟩ (.int .i64 0)).setCell ⟨w.heap.size + 1, 1, none⟩ (.int .i64 0)).setCell ⟨w.heap.size + 1, 2, none⟩ (.string ⟨#[]⟩)).setCell ⟨w.heap.size + 1, 3, none⟩ (.int .i64 0)).setCell ⟨w.heap.size + 1, 4, none⟩ (.int .i64 0)).alloc (.cells #[.int .i64 p0.k, .int .i64 p0.n, .string (tx p0.s), .int .i64 p0.x, .int .i64 p0.y, .int .i64 p1.k, .int .i64 p1.n, .string (tx p1.s), .int .i64 p1.x, .int .i64 p1.y, .int .i64 p2.k, .int .i64 p2.n, .string (tx p2.s), .int .i64 p2.x, .int .i64 p2.y] 106))) at hxY
    generalize ((((((((((((w3.setCell ⟨w.heap.size, 0, none⟩ (.int .i64 0)).setCell ⟨w.heap.size, 1, none⟩ (.int .i64 0)).setCell ⟨w.heap.size, 2, none⟩ (.string ⟨#[]⟩)).setCell ⟨w.heap.size, 3, none⟩ (.int .i64 0)).setCell ⟨w.heap.size, 4, none⟩ (.int .i64 0)).setCell ⟨w.heap.size + 1, 0, none⟩ (.int .i64 0)).setCell ⟨w.heap.size + 1, 1, none⟩ (.int .i64 0)).setCell ⟨w.heap.size + 1, 2, none⟩ (.string ⟨#[]⟩)).setCell ⟨w.heap.size + 1, 3, none⟩ (.int .i64 0)).setCell ⟨w.heap.size + 1, 4, none⟩ (.int .i64 0)).alloc (.cells #[.int .i64 p0.k, .int .i64 p0.n, .string (tx p0.s), .int .i64 p0.x, .int .i64 p0.y, .int .i64 p1.k, .int .i64 p1.n, .string (tx p1.s), .int .i64 p1.x, .int .i64 p1.y, .int .i64 p2.k, .int .i64 p2.n, .string (tx p2.s), .int .i64 p2.x, .int .i64 p2.y] 106))) = w9 at *
    have cX0 := hxX.blk.c 0 _ rfl
    have cX1 := hxX.blk.c 1 _ rfl
    have cX2 := hxX.blk.c 2 _ rfl
    have cX3 := hxX.blk.c 3 _ rfl
    have cX4 := hxX.blk.c 4 _ rfl
    have cY0 := hxY.blk.c 0 _ rfl
    have cY1 := hxY.blk.c 1 _ rfl
    have cY2 := hxY.blk.c 2 _ rfl
    have cY3 := hxY.blk.c 3 _ rfl
    have cY4 := hxY.blk.c 4 _ rfl
    refine bodyPost_ret (v := .tuple #[.agg #[.int .i64 0, .int .i64 0, .string ⟨#[]⟩, .int .i64 0, .int .i64 0], .agg #[.int .i64 0, .int .i64 0, .string ⟨#[]⟩, .int .i64 0, .int .i64 0], .int .i64 x]) (by simp [results, Tryz.results94, go_sem, cX0, cX1, cX2, cX3, cX4, cY0, cY1, cY2, cY3, cY4]) rfl ⟨vz, vz, x, S1, n1, ov1, rfl, Ans.er (by rw [← HXE.out]; exact bnd_er HXX.out) rfl HX0.out, rt_vz, rt_vz, fun h => absurd h HX0.out, hd9, hm9⟩
  · have HXX := Lib.hid hX; have HAA := Lib.hid ha; have HGD := Lib.hid (HG.out rfl)
    clear hX ha HA HG
    by_cases hk : p0.k = p1.k
    · have hk1 : (p0.k != p1.k) = false := by simpa using hk
      have HK := Lib.hid hk; clear hk
      have cX0 := HX3.out.blk.c 0 _ rfl; have zX0 := HX3.out.blk.f 0 _ rfl
      have cX1 := HX3.out.blk.c 1 _ rfl; have zX1 := HX3.out.blk.f 1 _ rfl
      have cX2 := HX3.out.blk.c 2 _ rfl; have zX2 := HX3.out.blk.f 2 _ rfl
      have cX3 := HX3.out.blk.c 3 _ rfl; have zX3 := HX3.out.blk.f 3 _ rfl
      have cX4 := HX3.out.blk.c 4 _ rfl; have zX4 := HX3.out.blk.f 4 _ rfl
      have hltX := HX3.out.blk.lt
      have cY0 := HY3.out.blk.c 0 _ rfl; have zY0 := HY3.out.blk.f 0 _ rfl
      have cY1 := HY3.out.blk.c 1 _ rfl; have zY1 := HY3.out.blk.f 1 _ rfl
      have cY2 := HY3.out.blk.c 2 _ rfl; have zY2 := HY3.out.blk.f 2 _ rfl
      have cY3 := HY3.out.blk.c 3 _ rfl; have zY3 := HY3.out.blk.f 3 _ rfl
      have cY4 := HY3.out.blk.c 4 _ rfl; have zY4 := HY3.out.blk.f 4 _ rfl
      have hltY := HY3.out.blk.lt
      go_wp2_with (fail)
      go_region
      go_wp2_with (fail)
      have hd9 := (((HD3.out.puts HX3.out 0 [.int .i64 p0.k, .int .i64 p0.n, .string (tx p0.s), .int .i64 p0.x, .int .i64 p0.y]).puts (Box.puts_other (C := w.heap.size) (HY3.out) (by omega) 0 [.int .i64 p0.k, .int .i64 p0.n, .string (tx p0.s), .int .i64 p0.x, .int .i64 p0.y]) 0 [.int .i64 p1.k, .int .i64 p1.n, .string (tx p1.s), .int .i64 p1.x, .int .i64 p1.y]).old (box1 _ (.cells #[.int .i64 p0.k, .int .i64 p0.n, .string (tx p0.s), .int .i64 p0.x, .int .i64 p0.y, .int .i64 p1.k, .int .i64 p1.n, .string (tx p1.s), .int .i64 p1.x, .int .i64 p1.y, .int .i64 p2.k, .int .i64 p2.n, .string (tx p2.s), .int .i64 p2.x, .int .i64 p2.y] 106))).drew
      have hm9 := ((Mv.puts (B := w.heap.size + 1) (Mv.puts (B := w.heap.size) HM3.out (by omega) 0 [.int .i64 p0.k, .int .i64 p0.n, .string (tx p0.s), .int .i64 p0.x, .int .i64 p0.y]) (by omega) 0 [.int .i64 p1.k, .int .i64 p1.n, .string (tx p1.s), .int .i64 p1.x, .int .i64 p1.y]).old (box1 _ (.cells #[.int .i64 p0.k, .int .i64 p0.n, .string (tx p0.s), .int .i64 p0.x, .int .i64 p0.y, .int .i64 p1.k, .int .i64 p1.n, .string (tx p1.s), .int .i64 p1.x, .int .i64 p1.y, .int .i64 p2.k, .int .i64 p2.n, .string (tx p2.s), .int .i64 p2.x, .int .i64 p2.y] 106))).old (Below.refl _ _).drew
      have hxX := ((Box.puts_other (C := w.heap.size + 1) ((Box.puts (HX3.out) [.int .i64 p0.k, .int .i64 p0.n, .string (tx p0.s), .int .i64 p0.x, .int .i64 p0.y] rfl)) (by omega) 0 [.int .i64 p1.k, .int .i64 p1.n, .string (tx p1.s), .int .i64 p1.x, .int .i64 p1.y]).old (box1 _ (.cells #[.int .i64 p0.k, .int .i64 p0.n, .string (tx p0.s), .int .i64 p0.x, .int .i64 p0.y, .int .i64 p1.k, .int .i64 p1.n, .string (tx p1.s), .int .i64 p1.x, .int .i64 p1.y, .int .i64 p2.k, .int .i64 p2.n, .string (tx p2.s), .int .i64 p2.x, .int .i64 p2.y] 106))).drew
      have hxY := ((Box.puts ((Box.puts_other (C := w.heap.size) (HY3.out) (by omega) 0 [.int .i64 p0.k, .int .i64 p0.n, .string (tx p0.s), .int .i64 p0.x, .int .i64 p0.y])) [.int .i64 p1.k, .int .i64 p1.n, .string (tx p1.s), .int .i64 p1.x, .int .i64 p1.y] rfl).old (box1 _ (.cells #[.int .i64 p0.k, .int .i64 p0.n, .string (tx p0.s), .int .i64 p0.x, .int .i64 p0.y, .int .i64 p1.k, .int .i64 p1.n, .string (tx p1.s), .int .i64 p1.x, .int .i64 p1.y, .int .i64 p2.k, .int .i64 p2.n, .string (tx p2.s), .int .i64 p2.x, .int .i64 p2.y] 106))).drew
      clear cX0 zX0 cX1 zX1 cX2 zX2 cX3 zX3 cX4 zX4 cY0 zY0 cY1 zY1 cY2 zY2 cY3 zY3 cY4 zY4 HD3 HM3 HX3 HY3 
      change bodyPost _ _ _ _ _ ((((((((((((w3.setCell ⟨w.heap.size, 0, none⟩ (.int .i64 p0.k)).setCell ⟨w.heap.size, 1, none⟩ (.int .i64 p0.n)).setCell ⟨w.heap.size, 2, none⟩ (.string (tx p0.s))).setCell ⟨w.heap.size, 3, none⟩ (.int .i64 p0.x)).setCell ⟨w.heap.size, 4, none⟩ (.int .i64 p0.y)).setCell ⟨w.heap.size + 1, 0, none⟩ (.int .i64 p1.k)).setCell ⟨w.heap.size + 1, 1, none⟩ (.int .i64 p1.n)).setCell ⟨w.heap.size + 1, 2, none⟩ (.string (tx p1.s))).setCell ⟨w.heap.size + 1, 3, none⟩ (.int .i64 p1.x)).setCell ⟨w.heap.size + 1, 4, none⟩ (.int .i64 p1.y)).alloc (.cells #[.int .i64 p0.k, .int .i64 p0.n, .string (tx p0.s), .int .i64 p0.x, .int .i64 p0.y, .int .i64 p1.k, .int .i64 p1.n, .string (tx p1.s), .int .i64 p1.x, .int .i64 p1.y, .int .i64 p2.k, .int .i64 p2.n, .string (tx p2.s), .int .i64 p2.x, .int .i64 p2.y] 106)).drew)
      change Doer _ _ _ _ _ _ _ _ _ ((((((((((((w3.setCell ⟨w.heap.size, 0, none⟩ (.int .i64 p0.k)).setCell ⟨w.heap.size, 1, none⟩ (.int .i64 p0.n)).setCell ⟨w.heap.size, 2, none⟩ (.string (tx p0.s))).setCell ⟨w.heap.size, 3, none⟩ (.int .i64 p0.x)).setCell ⟨w.heap.size, 4, none⟩ (.int .i64 p0.y)).setCell ⟨w.heap.size + 1, 0, none⟩ (.int .i64 p1.k)).setCell ⟨w.heap.size + 1, 1, none⟩ (.int .i64 p1.n)).setCell ⟨w.heap.size + 1, 2, none⟩ (.string (tx p1.s))).setCell ⟨w.heap.size + 1, 3, none⟩ (.int .i64 p1.x)).setCell ⟨w.heap.size + 1, 4, none⟩ (.int .i64 p1.y)).alloc (.cells #[.int .i64 p0.k, .int .i64 p0.n, .string (tx p0.s), .int .i64 p0.x, .int .i64 p0.y, .int .i64 p1.k, .int .i64 p1.n, .string (tx p1.s), .int .i64 p1.x, .int .i64 p1.y, .int .i64 p2.k, .int .i64 p2.n, .string (tx p2.s), .int .i64 p2.x, .int .i64 p2.y] 106)).drew) at hd9
      change Mv _ _ _ _ ((((((((((((w3.setCell ⟨w.heap.size, 0, none⟩ (.int .i64 p0.k)).setCell ⟨w.heap.size, 1, none⟩ (.int .i64 p0.n)).setCell ⟨w.heap.size, 2, none⟩ (.string (tx p0.s))).setCell ⟨w.heap.size, 3, none⟩ (.int .i64 p0.x)).setCell ⟨w.heap.size, 4, none⟩ (.int .i64 p0.y)).setCell ⟨w.heap.size + 1, 0, none⟩ (.int .i64 p1.k)).setCell ⟨w.heap.size + 1, 1, none⟩ (.int .i64 p1.n)).setCell ⟨w.heap.size + 1, 2, none⟩ (.string (tx p1.s))).setCell ⟨w.heap.size + 1, 3, none⟩ (.int .i64 p1.x)).setCell ⟨w.heap.size + 1, 4, none⟩ (.int .i64 p1.y)).alloc (.cells #[.int .i64 p0.k, .int .i64 p0.n, .string (tx p0.s), .int .i64 p0.x, .int .i64 p0.y, .int .i64 p1.k, .int .i64 p1.n, .string (tx p1.s), .int .i64 p1.x, .int .i64 p1.y, .int .i64 p2.k, .int .i64 p2.n, .string (tx p2.s), .int .i64 p2.x, .int .i64 p2.y] 106)).drew) at hm9
      change Box _ _ _ _ _ _ ((((((((((((w3.setCell ⟨w.heap.size, 0, none⟩ (.int .i64 p0.k)).setCell ⟨w.heap.size, 1, none⟩ (.int .i64 p0.n)).setCell ⟨w.heap.size, 2, none⟩ (.string (tx p0.s))).setCell ⟨w.heap.size, 3, none⟩ (.int .i64 p0.x)).setCell ⟨w.heap.size, 4, none⟩ (.int .i64 p0.y)).setCell ⟨w.heap.size + 1, 0, none⟩ (.int .i64 p1.k)).setCell ⟨w.heap.size + 1, 1, none⟩ (.int .i64 p1.n)).setCell ⟨w.heap.size + 1, 2, none⟩ (.string (tx p1.s))).setCell ⟨w.heap.size + 1, 3, none⟩ (.int .i64 p1.x)).setCell ⟨w.heap.size + 1, 4, none⟩ (.int .i64 p1.y)).alloc (.cells #[.int .i64 p0.k, .int .i64 p0.n, .string (tx p0.s), .int .i64 p0.x, .int .i64 p0.y, .int .i64 p1.k, .int .i64 p1.n, .string (tx p1.s), .int .i64 p1.x, .int .i64 p1.y, .int .i64 p2.k, .int .i64 p2.n, .string (tx p2.s), .int .i64 p2.x, .int .i64 p2.y] 106)).drew) at hxX
      change Box _ _ _ _ _ _ ((((((((((((w3.setCell ⟨w.heap.size, 0, none⟩ (.int .i64 p0.k)).setCell ⟨w.heap.size, 1, none⟩ (.int .i64 p0.n)).setCell ⟨w.heap.size, 2, none⟩ (.string (tx p0.s))).setCell ⟨w.heap.size, 3, none⟩ (.int .i64 p0.x)).setCell ⟨w.heap.size, 4, none⟩ (.int .i64 p0.y)).setCell ⟨w.heap.size + 1, 0, none⟩ (.int .i64 p1.k)).setCell ⟨w.heap.size + 1, 1, none⟩ (.int .i64 p1.n)).setCell ⟨w.heap.size + 1, 2, none⟩ (.string (tx p1.s))).setCell ⟨w.heap.size + 1, 3, none⟩ (.int .i64 p1.x)).setCell ⟨w.heap.size + 1, 4, none⟩ (.int .i64 p1.y)).alloc (.cells #[.int .i64 p0.k, .int .i64 p0.n, .string (tx p0.s), .int .i64 p0.x, .int .i64 p0.y, .int .i64 p1.k, .int .i64 p1.n, .string (tx p1.s), .int .i64 p1.x, .int .i64 p1.y, .int .i64 p2.k, .int .i64 p2.n, .string (tx p2.s), .int .i64 p2.x, .int .i64 p2.y] 106)).drew) at hxY
      generalize ((((((((((((w3.setCell ⟨w.heap.size, 0, none⟩ (.int .i64 p0.k)).setCell ⟨w.heap.size, 1, none⟩ (.int .i64 p0.n)).setCell ⟨w.heap.size, 2, none⟩ (.string (tx p0.s))).setCell ⟨w.heap.size, 3, none⟩ (.int .i64 p0.x)).setCell ⟨w.heap.size, 4, none⟩ (.int .i64 p0.y)).setCell ⟨w.heap.size + 1, 0, none⟩ (.int .i64 p1.k)).setCell ⟨w.heap.size + 1, 1, none⟩ (.int .i64 p1.n)).setCell ⟨w.heap.size + 1, 2, none⟩ (.string (tx p1.s))).setCell ⟨w.heap.size + 1, 3, none⟩ (.int .i64 p1.x)).setCell ⟨w.heap.size + 1, 4, none⟩ (.int .i64 p1.y)).alloc (.cells #[.int .i64 p0.k, .int .i64 p0.n, .string (tx p0.s), .int .i64 p0.x, .int .i64 p0.y, .int .i64 p1.k, .int .i64 p1.n, .string (tx p1.s), .int .i64 p1.x, .int .i64 p1.y, .int .i64 p2.k, .int .i64 p2.n, .string (tx p2.s), .int .i64 p2.x, .int .i64 p2.y] 106)).drew) = w9 at *
      have cX0 := hxX.blk.c 0 _ rfl
      have cX1 := hxX.blk.c 1 _ rfl
      have cX2 := hxX.blk.c 2 _ rfl
      have cX3 := hxX.blk.c 3 _ rfl
      have cX4 := hxX.blk.c 4 _ rfl
      have cY0 := hxY.blk.c 0 _ rfl
      have cY1 := hxY.blk.c 1 _ rfl
      have cY2 := hxY.blk.c 2 _ rfl
      have cY3 := hxY.blk.c 3 _ rfl
      have cY4 := hxY.blk.c 4 _ rfl
      refine bodyPost_ret (v := .tuple #[.agg #[.int .i64 p0.k, .int .i64 p0.n, .string (tx p0.s), .int .i64 p0.x, .int .i64 p0.y], .agg #[.int .i64 p1.k, .int .i64 p1.n, .string (tx p1.s), .int .i64 p1.x, .int .i64 p1.y], .int .i64 0]) (by simp [results, Tryz.results94, go_sem, cX0, cX1, cX2, cX3, cX4, cY0, cY1, cY2, cY3, cY4]) rfl ⟨p0, p1, 0, S1, n1, ov1, rfl, by rw [← HXE.out]; obtain ⟨rfl, rfl, rfl⟩ := HAA.out; exact Ans.ok (by rw [bnd_ok HXX.out]; exact alk_ok HK.out _ _) ⟨rfl, rfl, HK.out⟩, R0.out, R1.out, fun _ => HGD.out, hd9, hm9⟩
    · have hk1 : (p0.k != p1.k) = true := by simpa using hk
      have HK := Lib.hid hk; clear hk
      have cX0 := HX3.out.blk.c 0 _ rfl; have zX0 := HX3.out.blk.f 0 _ rfl
      have cX1 := HX3.out.blk.c 1 _ rfl; have zX1 := HX3.out.blk.f 1 _ rfl
      have cX2 := HX3.out.blk.c 2 _ rfl; have zX2 := HX3.out.blk.f 2 _ rfl
      have cX3 := HX3.out.blk.c 3 _ rfl; have zX3 := HX3.out.blk.f 3 _ rfl
      have cX4 := HX3.out.blk.c 4 _ rfl; have zX4 := HX3.out.blk.f 4 _ rfl
      have hltX := HX3.out.blk.lt
      have cY0 := HY3.out.blk.c 0 _ rfl; have zY0 := HY3.out.blk.f 0 _ rfl
      have cY1 := HY3.out.blk.c 1 _ rfl; have zY1 := HY3.out.blk.f 1 _ rfl
      have cY2 := HY3.out.blk.c 2 _ rfl; have zY2 := HY3.out.blk.f 2 _ rfl
      have cY3 := HY3.out.blk.c 3 _ rfl; have zY3 := HY3.out.blk.f 3 _ rfl
      have cY4 := HY3.out.blk.c 4 _ rfl; have zY4 := HY3.out.blk.f 4 _ rfl
      have hltY := HY3.out.blk.lt
      go_wp2_with (fail)
      have hd9 := (((HD3.out.puts HX3.out 0 [.int .i64 0, .int .i64 0, .string ⟨#[]⟩, .int .i64 0, .int .i64 0]).puts (Box.puts_other (C := w.heap.size) (HY3.out) (by omega) 0 [.int .i64 0, .int .i64 0, .string ⟨#[]⟩, .int .i64 0, .int .i64 0]) 0 [.int .i64 0, .int .i64 0, .string ⟨#[]⟩, .int .i64 0, .int .i64 0]).old (box1 _ (.cells #[.int .i64 p0.k, .int .i64 p0.n, .string (tx p0.s), .int .i64 p0.x, .int .i64 p0.y, .int .i64 p1.k, .int .i64 p1.n, .string (tx p1.s), .int .i64 p1.x, .int .i64 p1.y, .int .i64 p2.k, .int .i64 p2.n, .string (tx p2.s), .int .i64 p2.x, .int .i64 p2.y] 106)))
      have hm9 := ((Mv.puts (B := w.heap.size + 1) (Mv.puts (B := w.heap.size) HM3.out (by omega) 0 [.int .i64 0, .int .i64 0, .string ⟨#[]⟩, .int .i64 0, .int .i64 0]) (by omega) 0 [.int .i64 0, .int .i64 0, .string ⟨#[]⟩, .int .i64 0, .int .i64 0]).old (box1 _ (.cells #[.int .i64 p0.k, .int .i64 p0.n, .string (tx p0.s), .int .i64 p0.x, .int .i64 p0.y, .int .i64 p1.k, .int .i64 p1.n, .string (tx p1.s), .int .i64 p1.x, .int .i64 p1.y, .int .i64 p2.k, .int .i64 p2.n, .string (tx p2.s), .int .i64 p2.x, .int .i64 p2.y] 106)))
      have hxX := ((Box.puts_other (C := w.heap.size + 1) ((Box.puts (HX3.out) [.int .i64 0, .int .i64 0, .string ⟨#[]⟩, .int .i64 0, .int .i64 0] rfl)) (by omega) 0 [.int .i64 0, .int .i64 0, .string ⟨#[]⟩, .int .i64 0, .int .i64 0]).old (box1 _ (.cells #[.int .i64 p0.k, .int .i64 p0.n, .string (tx p0.s), .int .i64 p0.x, .int .i64 p0.y, .int .i64 p1.k, .int .i64 p1.n, .string (tx p1.s), .int .i64 p1.x, .int .i64 p1.y, .int .i64 p2.k, .int .i64 p2.n, .string (tx p2.s), .int .i64 p2.x, .int .i64 p2.y] 106)))
      have hxY := ((Box.puts ((Box.puts_other (C := w.heap.size) (HY3.out) (by omega) 0 [.int .i64 0, .int .i64 0, .string ⟨#[]⟩, .int .i64 0, .int .i64 0])) [.int .i64 0, .int .i64 0, .string ⟨#[]⟩, .int .i64 0, .int .i64 0] rfl).old (box1 _ (.cells #[.int .i64 p0.k, .int .i64 p0.n, .string (tx p0.s), .int .i64 p0.x, .int .i64 p0.y, .int .i64 p1.k, .int .i64 p1.n, .string (tx p1.s), .int .i64 p1.x, .int .i64 p1.y, .int .i64 p2.k, .int .i64 p2.n, .string (tx p2.s), .int .i64 p2.x, .int .i64 p2.y] 106)))
      clear cX0 zX0 cX1 zX1 cX2 zX2 cX3 zX3 cX4 zX4 cY0 zY0 cY1 zY1 cY2 zY2 cY3 zY3 cY4 zY4 HD3 HM3 HX3 HY3 
      change bodyPost _ _ _ _ _ (((((((((((w3.setCell ⟨w.heap.size, 0, none⟩ (.int .i64 0)).setCell ⟨w.heap.size, 1, none⟩ (.int .i64 0)).setCell ⟨w.heap.size, 2, none⟩ (.string ⟨#[]⟩)).setCell ⟨w.heap.size, 3, none⟩ (.int .i64 0)).setCell ⟨w.heap.size, 4, none⟩ (.int .i64 0)).setCell ⟨w.heap.size + 1, 0, none⟩ (.int .i64 0)).setCell ⟨w.heap.size + 1, 1, none⟩ (.int .i64 0)).setCell ⟨w.heap.size + 1, 2, none⟩ (.string ⟨#[]⟩)).setCell ⟨w.heap.size + 1, 3, none⟩ (.int .i64 0)).setCell ⟨w.heap.size + 1, 4, none⟩ (.int .i64 0)).alloc (.cells #[.int .i64 p0.k, .int .i64 p0.n, .string (tx p0.s), .int .i64 p0.x, .int .i64 p0.y, .int .i64 p1.k, .int .i64 p1.n, .string (tx p1.s), .int .i64 p1.x, .int .i64 p1.y, .int .i64 p2.k, .int .i64 p2.n, .string (tx p2.s), .int .i64 p2.x, .int .i64 p2.y] 106))
      change Doer _ _ _ _ _ _ _ _ _ ((((((((((((w3.setCell ⟨w.heap.size, 0, none⟩ (.int .i64 0)).setCell ⟨w.heap.size, 1, none⟩ (.int .i64 0)).setCell ⟨w.heap.size, 2, none⟩ (.string ⟨#[]⟩)).setCell ⟨w.heap.size, 3, none⟩ (.int .i64 0)).setCell ⟨w.heap.size, 4, none⟩ (.int .i64 0)).setCell ⟨w.heap.size + 1, 0, none⟩ (.int .i64 0)).setCell ⟨w.heap.size + 1, 1, none⟩ (.int .i64 0)).setCell ⟨w.heap.size + 1, 2, none⟩ (.string ⟨#[]⟩)).setCell ⟨w.heap.size + 1, 3, none⟩ (.int .i64 0)).setCell ⟨w.heap.size + 1, 4, none⟩ (.int .i64 0)).alloc (.cells #[.int .i64 p0.k, .int .i64 p0.n, .string (tx p0.s), .int .i64 p0.x, .int .i64 p0.y, .int .i64 p1.k, .int .i64 p1.n, .string (tx p1.s), .int .i64 p1.x, .int .i64 p1.y, .int .i64 p2.k, .int .i64 p2.n, .string (tx p2.s), .int .i64 p2.x, .int .i64 p2.y] 106))) at hd9
      change Mv _ _ _ _ ((((((((((((w3.setCell ⟨w.heap.size, 0, none⟩ (.int .i64 0)).setCell ⟨w.heap.size, 1, none⟩ (.int .i64 0)).setCell ⟨w.heap.size, 2, none⟩ (.string ⟨#[]⟩)).setCell ⟨w.heap.size, 3, none⟩ (.int .i64 0)).setCell ⟨w.heap.size, 4, none⟩ (.int .i64 0)).setCell ⟨w.heap.size + 1, 0, none⟩ (.int .i64 0)).setCell ⟨w.heap.size + 1, 1, none⟩ (.int .i64 0)).setCell ⟨w.heap.size + 1, 2, none⟩ (.string ⟨#[]⟩)).setCell ⟨w.heap.size + 1, 3, none⟩ (.int .i64 0)).setCell ⟨w.heap.size + 1, 4, none⟩ (.int .i64 0)).alloc (.cells #[.int .i64 p0.k, .int .i64 p0.n, .string (tx p0.s), .int .i64 p0.x, .int .i64 p0.y, .int .i64 p1.k, .int .i64 p1.n, .string (tx p1.s), .int .i64 p1.x, .int .i64 p1.y, .int .i64 p2.k, .int .i64 p2.n, .string (tx p2.s), .int .i64 p2.x, .int .i64 p2.y] 106))) at hm9
      change Box _ _ _ _ _ _ ((((((((((((w3.setCell ⟨w.heap.size, 0, none⟩ (.int .i64 0)).setCell ⟨w.heap.size, 1, none⟩ (.int .i64 0)).setCell ⟨w.heap.size, 2, none⟩ (.string ⟨#[]⟩)).setCell ⟨w.heap.size, 3, none⟩ (.int .i64 0)).setCell ⟨w.heap.size, 4, none⟩ (.int .i64 0)).setCell ⟨w.heap.size + 1, 0, none⟩ (.int .i64 0)).setCell ⟨w.heap.size + 1, 1, none⟩ (.int .i64 0)).setCell ⟨w.heap.size + 1, 2, none⟩ (.string ⟨#[]⟩)).setCell ⟨w.heap.size + 1, 3, none⟩ (.int .i64 0)).setCell ⟨w.heap.size + 1, 4, none⟩ (.int .i64 0)).alloc (.cells #[.int .i64 p0.k, .int .i64 p0.n, .string (tx p0.s), .int .i64 p0.x, .int .i64 p0.y, .int .i64 p1.k, .int .i64 p1.n, .string (tx p1.s), .int .i64 p1.x, .int .i64 p1.y, .int .i64 p2.k, .int .i64 p2.n, .string (tx p2.s), .int .i64 p2.x, .int .i64 p2.y] 106))) at hxX
      change Box _ _ _ _ _ _ ((((((((((((w3.setCell ⟨w.heap.size, 0, none⟩ (.int .i64 0)).setCell ⟨w.heap.size, 1, none⟩ (.int .i64 0)).setCell ⟨w.heap.size, 2, none⟩ (.string ⟨#[]⟩)).setCell ⟨w.heap.size, 3, none⟩ (.int .i64 0)).setCell ⟨w.heap.size, 4, none⟩ (.int .i64 0)).setCell ⟨w.heap.size + 1, 0, none⟩ (.int .i64 0)).setCell ⟨w.heap.size + 1, 1, none⟩ (.int .i64 0)).setCell ⟨w.heap.size + 1, 2, none⟩ (.string ⟨#[]⟩)).setCell ⟨w.heap.size + 1, 3, none⟩ (.int .i64 0)).setCell ⟨w.heap.size + 1, 4, none⟩ (.int .i64 0)).alloc (.cells #[.int .i64 p0.k, .int .i64 p0.n, .string (tx p0.s), .int .i64 p0.x, .int .i64 p0.y, .int .i64 p1.k, .int .i64 p1.n, .string (tx p1.s), .int .i64 p1.x, .int .i64 p1.y, .int .i64 p2.k, .int .i64 p2.n, .string (tx p2.s), .int .i64 p2.x, .int .i64 p2.y] 106))) at hxY
      generalize ((((((((((((w3.setCell ⟨w.heap.size, 0, none⟩ (.int .i64 0)).setCell ⟨w.heap.size, 1, none⟩ (.int .i64 0)).setCell ⟨w.heap.size, 2, none⟩ (.string ⟨#[]⟩)).setCell ⟨w.heap.size, 3, none⟩ (.int .i64 0)).setCell ⟨w.heap.size, 4, none⟩ (.int .i64 0)).setCell ⟨w.heap.size + 1, 0, none⟩ (.int .i64 0)).setCell ⟨w.heap.size + 1, 1, none⟩ (.int .i64 0)).setCell ⟨w.heap.size + 1, 2, none⟩ (.string ⟨#[]⟩)).setCell ⟨w.heap.size + 1, 3, none⟩ (.int .i64 0)).setCell ⟨w.heap.size + 1, 4, none⟩ (.int .i64 0)).alloc (.cells #[.int .i64 p0.k, .int .i64 p0.n, .string (tx p0.s), .int .i64 p0.x, .int .i64 p0.y, .int .i64 p1.k, .int .i64 p1.n, .string (tx p1.s), .int .i64 p1.x, .int .i64 p1.y, .int .i64 p2.k, .int .i64 p2.n, .string (tx p2.s), .int .i64 p2.x, .int .i64 p2.y] 106))) = w9 at *
      have cX0 := hxX.blk.c 0 _ rfl
      have cX1 := hxX.blk.c 1 _ rfl
      have cX2 := hxX.blk.c 2 _ rfl
      have cX3 := hxX.blk.c 3 _ rfl
      have cX4 := hxX.blk.c 4 _ rfl
      have cY0 := hxY.blk.c 0 _ rfl
      have cY1 := hxY.blk.c 1 _ rfl
      have cY2 := hxY.blk.c 2 _ rfl
      have cY3 := hxY.blk.c 3 _ rfl
      have cY4 := hxY.blk.c 4 _ rfl
      refine bodyPost_ret (v := .tuple #[.agg #[.int .i64 0, .int .i64 0, .string ⟨#[]⟩, .int .i64 0, .int .i64 0], .agg #[.int .i64 0, .int .i64 0, .string ⟨#[]⟩, .int .i64 0, .int .i64 0], .int .i64 13]) (by simp [results, Tryz.results94, go_sem, cX0, cX1, cX2, cX3, cX4, cY0, cY1, cY2, cY3, cY4]) rfl ⟨vz, vz, 13, S1, n1, ov1, rfl, by rw [← HXE.out]; obtain ⟨rfl, rfl, rfl⟩ := HAA.out; exact Ans.er (by rw [bnd_ok HXX.out]; exact alk_no HK.out _ _) rfl (by decide), rt_vz, rt_vz, fun h => absurd h (by decide), hd9, hm9⟩
end Go.Proofs.YtcdjincaedpodaaGreatDoor.Ev
/-
  Reckoning with two numbers or points (written by gen_evalike.py).
-/
namespace Go.Proofs.YtcdjincaedpodaaGreatDoor.Ev
open Go.ChangeShapes Go.WideShapes Go.ChangeAt Go.RowKit Go.Proofs.YtcdjincaedpodaaGreatDoor.Ov Go.Proofs.YtcdjincaedpodaaGreatDoor.Va Go.Proofs.YtcdjincaedpodaaGreatDoor.Ga Go.Proofs.YtcdjincaedpodaaGreatDoor.Ex

theorem tx_data (s : ByteArray) : tx s.data.toList = s := (tx_ext rfl).symm
/-- What comes out if there is no error and it is right. -/
def cke (e : Int) (u : Va) : Int ⊕ Va := if e = 0 then chk u else .inl e
theorem ifv_ans (k n x y e : Int) (s : ByteArray) : ∃ (v : Va) (z : Int), ifv k n s x y e = .tuple #[.agg #[.int .i64 v.k, .int .i64 v.n, .string (tx v.s), .int .i64 v.x, .int .i64 v.y], .int .i64 z] ∧ ∀ S m, Ans (lift (cke e ⟨k, n, s.data.toList, x, y⟩) S m) (fun a => v = a) z S m := by
  unfold ifv cke chk
  by_cases h : e = 0
  · rw [if_pos h, if_pos h]
    by_cases h2 : rt ⟨k, n, s.data.toList, x, y⟩ = true
    · rw [if_pos h2, if_pos h2]
      exact ⟨⟨k, n, s.data.toList, x, y⟩, 0, by dsimp only; rw [tx_data], fun S m => ⟨rfl, rfl, rfl, rfl⟩⟩
    · rw [if_neg h2, if_neg h2]
      exact ⟨vz, 14, rfl, fun S m => ⟨rfl, by decide⟩⟩
  · rw [if_neg h, if_neg h]
    exact ⟨vz, e, rfl, fun S m => ⟨rfl, h⟩⟩
/-- What reckons with two numbers, and with two points. -/
structure RkC (o : Int) (F' G' : FuncId) : Prop where
  eF : ∀ args w, (callFunc F' args).run Tryz.prog w = .ok (.enter F' args) w
  eG : ∀ args w, (callFunc G' args).run Tryz.prog w = .ok (.enter G' args) w
  cF : ∀ a b : Int, (-9007199254740992 ≤ a ∧ a ≤ 9007199254740992) → (-9007199254740992 ≤ b ∧ b ≤ 9007199254740992) → ∃ r e : Int, (∀ w, Calls Tryz.prog F' #[.int .i64 a, .int .i64 b] w (Gives (.tuple #[.int .i64 r, .int .i64 e]) w)) ∧ nums o a b = cke e (nv r)
  cG : ∀ a b : Pt, rb a = true → rb b = true → ∃ (p : Pt) (e : Int), (∀ w, Calls Tryz.prog G' #[.agg #[.int .i64 a.x, .int .i64 a.y], .agg #[.int .i64 b.x, .int .i64 b.y]] w (Gives (.tuple #[.agg #[.int .i64 p.x, .int .i64 p.y], .int .i64 e]) w)) ∧ spots o a b = cke e (pv p.x p.y)
theorem rk_int {o : Int} {a b : Va} (h : a.k = b.k) (h0 : a.k = 0) : rk o a b = nums o a.n b.n := by unfold rk; rw [if_neg (fun e => e h), if_pos h0]
theorem rk_pt {o : Int} {a b : Va} (h : a.k = b.k) (h0 : a.k = 2) : rk o a b = spots o (pt a) (pt b) := by unfold rk; rw [if_neg (fun e => e h), if_neg (by omega), if_pos h0]
theorem rk_no {o : Int} {a b : Va} (h : a.k = b.k) (h0 : a.k ≠ 0) (h2 : a.k ≠ 2) : rk o a b = .inl 13 := by unfold rk; rw [if_neg (fun e => e h), if_neg h0, if_neg h2]
set_option maxRecDepth 100000 in
set_option maxHeartbeats 2000000 in
theorem reckon_any {o : Int} {F' G' : FuncId} (RK : RkC o F' G') {d : Nat} (HD : DoC (ev d) d) {w0 : World} {A : Option Addr} {c E b : Nat} {l : List No} {S : St} {n : Nat} {ov : Value} {w : World} {k m : Nat} {r : List No}
    (hcx : Cx w0 A l) (hd : Doer w0 A c E b l S n ov w) (hg : Gd S n) (hkl : k < l.length) (hx : it (ex d) m (l.drop (k + 1)) = some r) (hm : 2 ≤ m) (hd24 : d ≤ 24) :
    Calls Tryz.prog 80 #[.pointer (some ⟨b, 0, none⟩), .int .i64 (k : Int), .func (.func F') #[] #[], .func (.func G') #[] #[]] w (Dn (bnd (bnd (prt (ev d) [-1, -1] (l.drop (k + 1))) alk) (fun l => lift (rk o (at0 l) (at1 l))) S n) w0 A c E b l ov w) := by
  have hb0 : Box w0 b E ov w.heap.size [.int .i64 0, .int .i64 0, .string ⟨#[]⟩, .int .i64 0, .int .i64 0] (w.alloc vbox) := Box.made hd (by omega) 26 [.int .i64 0, .int .i64 0, .string ⟨#[]⟩, .int .i64 0, .int .i64 0]
  have hm0 : Mv b ov w ov (w.alloc vbox) := Mv.of (box1 w vbox)
  have HP := Lib.hid (alike_any HD hcx (hd.old (box1 w vbox)) hg hkl hx hm hd24)
  have HB0 := Lib.hid hb0; have HM0 := Lib.hid hm0
  have hF := RK.eF; have hG := RK.eG
  have HCF := Lib.hid RK.cF; have HCG := Lib.hid RK.cG
  obtain ⟨X, hX⟩ : ∃ X, bnd (bnd (prt (ev d) [-1, -1] (l.drop (k + 1))) alk) (fun l => lift (rk o (at0 l) (at1 l))) S n = X := ⟨_, rfl⟩
  have HXE := Lib.hid hX
  rw [hX]
  clear hcx hd hg hx hm hd24 HD hb0 hm0 hX RK
  go_enter Tryz.func80, Tryz.ntmps80
  go_wp2_with (fail)
  refine (HP.out).mono ?_
  rintro e w3 ⟨p, q, x, S1, n1, ov1, rfl, ha, r0, r1, hgd, hd3, hm3⟩
  have HA := Lib.hid ha; have R0 := Lib.hid r0; have R1 := Lib.hid r1; have HD3 := Lib.hid hd3
  have HX3 := Lib.hid (HB0.out.mv hm3); have HM3 := Lib.hid (HM0.out.trans hm3)
  have hlZ := HX3.out.blk.lt
  clear ha r0 r1 hgd hd3 hm3 HP HB0 HM0
  rcases HA.out.cases with ⟨hx0, hX⟩ | ⟨rfl, a, ha, hX⟩
  · have HX0 := Lib.hid hx0; have HXX := Lib.hid hX
    have hx1 : (x == 0) = false := by simpa using hx0
    have hx2 : (x != 0) = true := by simpa using hx0
    clear hx0 hX HA
    have cX0 := HX3.out.blk.c 0 _ rfl; have zX0 := HX3.out.blk.f 0 _ rfl
    have cX1 := HX3.out.blk.c 1 _ rfl; have zX1 := HX3.out.blk.f 1 _ rfl
    have cX2 := HX3.out.blk.c 2 _ rfl; have zX2 := HX3.out.blk.f 2 _ rfl
    have cX3 := HX3.out.blk.c 3 _ rfl; have zX3 := HX3.out.blk.f 3 _ rfl
    have cX4 := HX3.out.blk.c 4 _ rfl; have zX4 := HX3.out.blk.f 4 _ rfl
    have hltX := HX3.out.blk.lt
    go_wp2_with (fail)
    have hd9 := (((HD3.out.puts HX3.out 0 [.int .i64 0, .int .i64 0, .string ⟨#[]⟩, .int .i64 0, .int .i64 0]).old (box1 _ (.cells #[.int .i64 p.k, .int .i64 p.n, .string (tx p.s), .int .i64 p.x, .int .i64 p.y] 26))).old (box1 _ (.cells #[.int .i64 q.k, .int .i64 q.n, .string (tx q.s), .int .i64 q.x, .int .i64 q.y] 26)))
    have hm9 := (((Mv.puts (B := w.heap.size) HM3.out (by omega) 0 [.int .i64 0, .int .i64 0, .string ⟨#[]⟩, .int .i64 0, .int .i64 0]).old (box1 _ (.cells #[.int .i64 p.k, .int .i64 p.n, .string (tx p.s), .int .i64 p.x, .int .i64 p.y] 26))).old (box1 _ (.cells #[.int .i64 q.k, .int .i64 q.n, .string (tx q.s), .int .i64 q.x, .int .i64 q.y] 26)))
    have hxX := (((Box.puts (HX3.out) [.int .i64 0, .int .i64 0, .string ⟨#[]⟩, .int .i64 0, .int .i64 0] rfl).old (box1 _ (.cells #[.int .i64 p.k, .int .i64 p.n, .string (tx p.s), .int .i64 p.x, .int .i64 p.y] 26))).old (box1 _ (.cells #[.int .i64 q.k, .int .i64 q.n, .string (tx q.s), .int .i64 q.x, .int .i64 q.y] 26)))
    clear cX0 zX0 cX1 zX1 cX2 zX2 cX3 zX3 cX4 zX4 HD3 HM3 HX3 
    change bodyPost _ _ _ _ _ (((((((w3.setCell ⟨w.heap.size, 0, none⟩ (.int .i64 0)).setCell ⟨w.heap.size, 1, none⟩ (.int .i64 0)).setCell ⟨w.heap.size, 2, none⟩ (.string ⟨#[]⟩)).setCell ⟨w.heap.size, 3, none⟩ (.int .i64 0)).setCell ⟨w.heap.size, 4, none⟩ (.int .i64 0)).alloc (.cells #[.int .i64 p.k, .int .i64 p.n, .string (tx p.s), .int .i64 p.x, .int .i64 p.y] 26)).alloc (.cells #[.int .i64 q.k, .int .i64 q.n, .string (tx q.s), .int .i64 q.x, .int .i64 q.y] 26))
    change Doer _ _ _ _ _ _ _ _ _ ((((((((w3.setCell ⟨w.heap.size, 0, none⟩ (.int .i64 0)).setCell ⟨w.heap.size, 1, none⟩ (.int .i64 0)).setCell ⟨w.heap.size, 2, none⟩ (.string ⟨#[]⟩)).setCell ⟨w.heap.size, 3, none⟩ (.int .i64 0)).setCell ⟨w.heap.size, 4, none⟩ (.int .i64 0)).alloc (.cells #[.int .i64 p.k, .int .i64 p.n, .string (tx p.s), .int .i64 p.x, .int .i64 p.y] 26)).alloc (.cells #[.int .i64 q.k, .int .i64 q.n, .string (tx q.s), .int .i64 q.x, .int .i64 q.y] 26))) at hd9
    change Mv _ _ _ _ ((((((((w3.setCell ⟨w.heap.size, 0, none⟩ (.int .i64 0)).setCell ⟨w.heap.size, 1, none⟩ (.int .i64 0)).setCell ⟨w.heap.size, 2, none⟩ (.string ⟨#[]⟩)).setCell ⟨w.heap.size, 3, none⟩ (.int .i64 0)).setCell ⟨w.heap.size, 4, none⟩ (.int .i64 0)).alloc (.cells #[.int .i64 p.k, .int .i64 p.n, .string (tx p.s), .int .i64 p.x, .int .i64 p.y] 26)).alloc (.cells #[.int .i64 q.k, .int .i64 q.n, .string (tx q.s), .int .i64 q.x, .int .i64 q.y] 26))) at hm9
    change Box _ _ _ _ _ _ ((((((((w3.setCell ⟨w.heap.size, 0, none⟩ (.int .i64 0)).setCell ⟨w.heap.size, 1, none⟩ (.int .i64 0)).setCell ⟨w.heap.size, 2, none⟩ (.string ⟨#[]⟩)).setCell ⟨w.heap.size, 3, none⟩ (.int .i64 0)).setCell ⟨w.heap.size, 4, none⟩ (.int .i64 0)).alloc (.cells #[.int .i64 p.k, .int .i64 p.n, .string (tx p.s), .int .i64 p.x, .int .i64 p.y] 26)).alloc (.cells #[.int .i64 q.k, .int .i64 q.n, .string (tx q.s), .int .i64 q.x, .int .i64 q.y] 26))) at hxX
    generalize ((((((((w3.setCell ⟨w.heap.size, 0, none⟩ (.int .i64 0)).setCell ⟨w.heap.size, 1, none⟩ (.int .i64 0)).setCell ⟨w.heap.size, 2, none⟩ (.string ⟨#[]⟩)).setCell ⟨w.heap.size, 3, none⟩ (.int .i64 0)).setCell ⟨w.heap.size, 4, none⟩ (.int .i64 0)).alloc (.cells #[.int .i64 p.k, .int .i64 p.n, .string (tx p.s), .int .i64 p.x, .int .i64 p.y] 26)).alloc (.cells #[.int .i64 q.k, .int .i64 q.n, .string (tx q.s), .int .i64 q.x, .int .i64 q.y] 26))) = w9 at *
    have cX0 := hxX.blk.c 0 _ rfl
    have cX1 := hxX.blk.c 1 _ rfl
    have cX2 := hxX.blk.c 2 _ rfl
    have cX3 := hxX.blk.c 3 _ rfl
    have cX4 := hxX.blk.c 4 _ rfl
    refine bodyPost_ret (v := .tuple #[.agg #[.int .i64 0, .int .i64 0, .string ⟨#[]⟩, .int .i64 0, .int .i64 0], .int .i64 x]) (by simp [results, Tryz.results80, go_sem, cX0, cX1, cX2, cX3, cX4]) rfl ⟨vz, x, S1, n1, ov1, rfl, Ans.er (by rw [← HXE.out]; exact bnd_er HXX.out) rfl HX0.out, hd9, hm9⟩
  · have HXX := Lib.hid hX
    obtain ⟨e0, e1, hk⟩ := ha
    have HK := Lib.hid hk; have E0 := Lib.hid e0; have E1 := Lib.hid e1
    clear hX e0 e1 hk HA
    by_cases h0 : p.k = 0
    · have h1 : (p.k == 0) = true := by simpa using h0
      obtain ⟨r1, e1, hc, hn⟩ := HCF.out p.n q.n (rt_all R0.out).1 (rt_all R1.out).1
      obtain ⟨v, z, hv, hz⟩ := ifv_ans 0 r1 0 0 e1 ⟨#[]⟩
      have HI := Lib.hid (eif_any 0 r1 0 0 e1 ⟨#[]⟩)
      rw [hv] at HI
      have HC := Lib.hid hc
      have HR : Hid (Ans X (fun a => v = a) z S1 n1) := by show Ans _ _ _ _ _; rw [← HXE.out, bnd_ok HXX.out, ← E0.out, ← E1.out, rk_int HK.out h0, hn]; exact hz _ _
      clear hc hn hz hv h0 HCF HCG HXE HXX E0 E1 HK
      go_wp2_with (fail)
      refine (HC.out _).mono ?_
      rintro e w4 ⟨rfl, hb⟩
      have HD4 := Lib.hid (((HD3.out.old (box1 _ (.cells #[.int .i64 p.k, .int .i64 p.n, .string (tx p.s), .int .i64 p.x, .int .i64 p.y] 26))).old (box1 _ (.cells #[.int .i64 q.k, .int .i64 q.n, .string (tx q.s), .int .i64 q.x, .int .i64 q.y] 26))).old hb)
      have HM4 := Lib.hid (((HM3.out.old (box1 _ (.cells #[.int .i64 p.k, .int .i64 p.n, .string (tx p.s), .int .i64 p.x, .int .i64 p.y] 26))).old (box1 _ (.cells #[.int .i64 q.k, .int .i64 q.n, .string (tx q.s), .int .i64 q.x, .int .i64 q.y] 26))).old hb)
      have HX4 := Lib.hid (((HX3.out.old (box1 _ (.cells #[.int .i64 p.k, .int .i64 p.n, .string (tx p.s), .int .i64 p.x, .int .i64 p.y] 26))).old (box1 _ (.cells #[.int .i64 q.k, .int .i64 q.n, .string (tx q.s), .int .i64 q.x, .int .i64 q.y] 26))).old hb)
      clear hb HD3 HM3 HX3  
      go_wp2_with (fail)
      refine (enumber_any _ _).mono ?_
      rintro e w5 ⟨rfl, hb⟩
      have HD5 := Lib.hid (HD4.out.old hb)
      have HM5 := Lib.hid (HM4.out.old hb)
      have HX5 := Lib.hid (HX4.out.old hb)
      clear hb HD4 HM4 HX4  
      go_wp2_with (fail)
      refine (HI.out _).mono ?_
      rintro e w6 ⟨rfl, hb⟩
      have HD6 := Lib.hid (HD5.out.old hb)
      have HM6 := Lib.hid (HM5.out.old hb)
      have HX6 := Lib.hid (HX5.out.old hb)
      clear hb HD5 HM5 HX5  
      have cX0 := HX6.out.blk.c 0 _ rfl; have zX0 := HX6.out.blk.f 0 _ rfl
      have cX1 := HX6.out.blk.c 1 _ rfl; have zX1 := HX6.out.blk.f 1 _ rfl
      have cX2 := HX6.out.blk.c 2 _ rfl; have zX2 := HX6.out.blk.f 2 _ rfl
      have cX3 := HX6.out.blk.c 3 _ rfl; have zX3 := HX6.out.blk.f 3 _ rfl
      have cX4 := HX6.out.blk.c 4 _ rfl; have zX4 := HX6.out.blk.f 4 _ rfl
      have hltX := HX6.out.blk.lt
      go_wp2_with (fail)
      have hd9 := (HD6.out.puts HX6.out 0 [.int .i64 v.k, .int .i64 v.n, .string (tx v.s), .int .i64 v.x, .int .i64 v.y])
      have hm9 := (Mv.puts (B := w.heap.size) HM6.out (by omega) 0 [.int .i64 v.k, .int .i64 v.n, .string (tx v.s), .int .i64 v.x, .int .i64 v.y])
      have hxX := (Box.puts (HX6.out) [.int .i64 v.k, .int .i64 v.n, .string (tx v.s), .int .i64 v.x, .int .i64 v.y] rfl)
      clear cX0 zX0 cX1 zX1 cX2 zX2 cX3 zX3 cX4 zX4 HD6 HM6 HX6 
      change bodyPost _ _ _ _ _ (((((w6.setCell ⟨w.heap.size, 0, none⟩ (.int .i64 v.k)).setCell ⟨w.heap.size, 1, none⟩ (.int .i64 v.n)).setCell ⟨w.heap.size, 2, none⟩ (.string (tx v.s))).setCell ⟨w.heap.size, 3, none⟩ (.int .i64 v.x)).setCell ⟨w.heap.size, 4, none⟩ (.int .i64 v.y))
      change Doer _ _ _ _ _ _ _ _ _ ((((((w6.setCell ⟨w.heap.size, 0, none⟩ (.int .i64 v.k)).setCell ⟨w.heap.size, 1, none⟩ (.int .i64 v.n)).setCell ⟨w.heap.size, 2, none⟩ (.string (tx v.s))).setCell ⟨w.heap.size, 3, none⟩ (.int .i64 v.x)).setCell ⟨w.heap.size, 4, none⟩ (.int .i64 v.y))) at hd9
      change Mv _ _ _ _ ((((((w6.setCell ⟨w.heap.size, 0, none⟩ (.int .i64 v.k)).setCell ⟨w.heap.size, 1, none⟩ (.int .i64 v.n)).setCell ⟨w.heap.size, 2, none⟩ (.string (tx v.s))).setCell ⟨w.heap.size, 3, none⟩ (.int .i64 v.x)).setCell ⟨w.heap.size, 4, none⟩ (.int .i64 v.y))) at hm9
      change Box _ _ _ _ _ _ ((((((w6.setCell ⟨w.heap.size, 0, none⟩ (.int .i64 v.k)).setCell ⟨w.heap.size, 1, none⟩ (.int .i64 v.n)).setCell ⟨w.heap.size, 2, none⟩ (.string (tx v.s))).setCell ⟨w.heap.size, 3, none⟩ (.int .i64 v.x)).setCell ⟨w.heap.size, 4, none⟩ (.int .i64 v.y))) at hxX
      generalize ((((((w6.setCell ⟨w.heap.size, 0, none⟩ (.int .i64 v.k)).setCell ⟨w.heap.size, 1, none⟩ (.int .i64 v.n)).setCell ⟨w.heap.size, 2, none⟩ (.string (tx v.s))).setCell ⟨w.heap.size, 3, none⟩ (.int .i64 v.x)).setCell ⟨w.heap.size, 4, none⟩ (.int .i64 v.y))) = w9 at *
      have cX0 := hxX.blk.c 0 _ rfl
      have cX1 := hxX.blk.c 1 _ rfl
      have cX2 := hxX.blk.c 2 _ rfl
      have cX3 := hxX.blk.c 3 _ rfl
      have cX4 := hxX.blk.c 4 _ rfl
      refine bodyPost_ret (v := .tuple #[.agg #[.int .i64 v.k, .int .i64 v.n, .string (tx v.s), .int .i64 v.x, .int .i64 v.y], .int .i64 z]) (by simp [results, Tryz.results80, go_sem, cX0, cX1, cX2, cX3, cX4]) rfl ⟨v, z, S1, n1, ov1, rfl, HR.out, hd9, hm9⟩
    · have h1 : (p.k == 0) = false := by simpa using h0
      by_cases h2 : p.k = 2
      · have h3 : (p.k == 2) = true := by simpa using h2
        obtain ⟨r1, e1, hc, hn⟩ := HCG.out (pt p) (pt q) (rt_all R0.out).2.2.1 (rt_all R1.out).2.2.1
        obtain ⟨u1, u2⟩ := r1
        dsimp only at hc hn
        obtain ⟨v, z, hv, hz⟩ := ifv_ans 2 0 u1 u2 e1 ⟨#[]⟩
        have HI := Lib.hid (eif_any 2 0 u1 u2 e1 ⟨#[]⟩)
        rw [hv] at HI
        have HC := Lib.hid hc
        unfold pt at HC
        have HR : Hid (Ans X (fun a => v = a) z S1 n1) := by show Ans _ _ _ _ _; rw [← HXE.out, bnd_ok HXX.out, ← E0.out, ← E1.out, rk_pt HK.out h2, hn]; exact hz _ _
        clear hc hn hz hv h0 h2 HCF HCG HXE HXX E0 E1 HK
        go_wp2_with (fail)
        refine (HC.out _).mono ?_
        rintro e w4 ⟨rfl, hb⟩
        have HD4 := Lib.hid (((HD3.out.old (box1 _ (.cells #[.int .i64 p.k, .int .i64 p.n, .string (tx p.s), .int .i64 p.x, .int .i64 p.y] 26))).old (box1 _ (.cells #[.int .i64 q.k, .int .i64 q.n, .string (tx q.s), .int .i64 q.x, .int .i64 q.y] 26))).old hb)
        have HM4 := Lib.hid (((HM3.out.old (box1 _ (.cells #[.int .i64 p.k, .int .i64 p.n, .string (tx p.s), .int .i64 p.x, .int .i64 p.y] 26))).old (box1 _ (.cells #[.int .i64 q.k, .int .i64 q.n, .string (tx q.s), .int .i64 q.x, .int .i64 q.y] 26))).old hb)
        have HX4 := Lib.hid (((HX3.out.old (box1 _ (.cells #[.int .i64 p.k, .int .i64 p.n, .string (tx p.s), .int .i64 p.x, .int .i64 p.y] 26))).old (box1 _ (.cells #[.int .i64 q.k, .int .i64 q.n, .string (tx q.s), .int .i64 q.x, .int .i64 q.y] 26))).old hb)
        clear hb HD3 HM3 HX3  
        go_wp2_with (fail)
        refine (epoint_any _ _ _).mono ?_
        rintro e w5 ⟨rfl, hb⟩
        have HD5 := Lib.hid ((HD4.out.old (box1 _ (.cells #[.int .i64 u1, .int .i64 u2] 24))).old hb)
        have HM5 := Lib.hid ((HM4.out.old (box1 _ (.cells #[.int .i64 u1, .int .i64 u2] 24))).old hb)
        have HX5 := Lib.hid ((HX4.out.old (box1 _ (.cells #[.int .i64 u1, .int .i64 u2] 24))).old hb)
        clear hb HD4 HM4 HX4  
        go_wp2_with (fail)
        refine (HI.out _).mono ?_
        rintro e w6 ⟨rfl, hb⟩
        have HD6 := Lib.hid (HD5.out.old hb)
        have HM6 := Lib.hid (HM5.out.old hb)
        have HX6 := Lib.hid (HX5.out.old hb)
        clear hb HD5 HM5 HX5  
        have cX0 := HX6.out.blk.c 0 _ rfl; have zX0 := HX6.out.blk.f 0 _ rfl
        have cX1 := HX6.out.blk.c 1 _ rfl; have zX1 := HX6.out.blk.f 1 _ rfl
        have cX2 := HX6.out.blk.c 2 _ rfl; have zX2 := HX6.out.blk.f 2 _ rfl
        have cX3 := HX6.out.blk.c 3 _ rfl; have zX3 := HX6.out.blk.f 3 _ rfl
        have cX4 := HX6.out.blk.c 4 _ rfl; have zX4 := HX6.out.blk.f 4 _ rfl
        have hltX := HX6.out.blk.lt
        go_wp2_with (fail)
        have hd9 := (HD6.out.puts HX6.out 0 [.int .i64 v.k, .int .i64 v.n, .string (tx v.s), .int .i64 v.x, .int .i64 v.y])
        have hm9 := (Mv.puts (B := w.heap.size) HM6.out (by omega) 0 [.int .i64 v.k, .int .i64 v.n, .string (tx v.s), .int .i64 v.x, .int .i64 v.y])
        have hxX := (Box.puts (HX6.out) [.int .i64 v.k, .int .i64 v.n, .string (tx v.s), .int .i64 v.x, .int .i64 v.y] rfl)
        clear cX0 zX0 cX1 zX1 cX2 zX2 cX3 zX3 cX4 zX4 HD6 HM6 HX6 
        change bodyPost _ _ _ _ _ (((((w6.setCell ⟨w.heap.size, 0, none⟩ (.int .i64 v.k)).setCell ⟨w.heap.size, 1, none⟩ (.int .i64 v.n)).setCell ⟨w.heap.size, 2, none⟩ (.string (tx v.s))).setCell ⟨w.heap.size, 3, none⟩ (.int .i64 v.x)).setCell ⟨w.heap.size, 4, none⟩ (.int .i64 v.y))
        change Doer _ _ _ _ _ _ _ _ _ ((((((w6.setCell ⟨w.heap.size, 0, none⟩ (.int .i64 v.k)).setCell ⟨w.heap.size, 1, none⟩ (.int .i64 v.n)).setCell ⟨w.heap.size, 2, none⟩ (.string (tx v.s))).setCell ⟨w.heap.size, 3, none⟩ (.int .i64 v.x)).setCell ⟨w.heap.size, 4, none⟩ (.int .i64 v.y))) at hd9
        change Mv _ _ _ _ ((((((w6.setCell ⟨w.heap.size, 0, none⟩ (.int .i64 v.k)).setCell ⟨w.heap.size, 1, none⟩ (.int .i64 v.n)).setCell ⟨w.heap.size, 2, none⟩ (.string (tx v.s))).setCell ⟨w.heap.size, 3, none⟩ (.int .i64 v.x)).setCell ⟨w.heap.size, 4, none⟩ (.int .i64 v.y))) at hm9
        change Box _ _ _ _ _ _ ((((((w6.setCell ⟨w.heap.size, 0, none⟩ (.int .i64 v.k)).setCell ⟨w.heap.size, 1, none⟩ (.int .i64 v.n)).setCell ⟨w.heap.size, 2, none⟩ (.string (tx v.s))).setCell ⟨w.heap.size, 3, none⟩ (.int .i64 v.x)).setCell ⟨w.heap.size, 4, none⟩ (.int .i64 v.y))) at hxX
        generalize ((((((w6.setCell ⟨w.heap.size, 0, none⟩ (.int .i64 v.k)).setCell ⟨w.heap.size, 1, none⟩ (.int .i64 v.n)).setCell ⟨w.heap.size, 2, none⟩ (.string (tx v.s))).setCell ⟨w.heap.size, 3, none⟩ (.int .i64 v.x)).setCell ⟨w.heap.size, 4, none⟩ (.int .i64 v.y))) = w9 at *
        have cX0 := hxX.blk.c 0 _ rfl
        have cX1 := hxX.blk.c 1 _ rfl
        have cX2 := hxX.blk.c 2 _ rfl
        have cX3 := hxX.blk.c 3 _ rfl
        have cX4 := hxX.blk.c 4 _ rfl
        refine bodyPost_ret (v := .tuple #[.agg #[.int .i64 v.k, .int .i64 v.n, .string (tx v.s), .int .i64 v.x, .int .i64 v.y], .int .i64 z]) (by simp [results, Tryz.results80, go_sem, cX0, cX1, cX2, cX3, cX4]) rfl ⟨v, z, S1, n1, ov1, rfl, HR.out, hd9, hm9⟩
      · have h3 : (p.k == 2) = false := by simpa using h2
        have HR : Hid (X = .er 13) := by show _ = _; rw [← HXE.out, bnd_ok HXX.out, ← E0.out, ← E1.out, rk_no HK.out h0 h2]; rfl
        clear h0 h2
        have cX0 := HX3.out.blk.c 0 _ rfl; have zX0 := HX3.out.blk.f 0 _ rfl
        have cX1 := HX3.out.blk.c 1 _ rfl; have zX1 := HX3.out.blk.f 1 _ rfl
        have cX2 := HX3.out.blk.c 2 _ rfl; have zX2 := HX3.out.blk.f 2 _ rfl
        have cX3 := HX3.out.blk.c 3 _ rfl; have zX3 := HX3.out.blk.f 3 _ rfl
        have cX4 := HX3.out.blk.c 4 _ rfl; have zX4 := HX3.out.blk.f 4 _ rfl
        have hltX := HX3.out.blk.lt
        go_wp2_with (fail)
        have hd9 := (((HD3.out.puts HX3.out 0 [.int .i64 0, .int .i64 0, .string ⟨#[]⟩, .int .i64 0, .int .i64 0]).old (box1 _ (.cells #[.int .i64 p.k, .int .i64 p.n, .string (tx p.s), .int .i64 p.x, .int .i64 p.y] 26))).old (box1 _ (.cells #[.int .i64 q.k, .int .i64 q.n, .string (tx q.s), .int .i64 q.x, .int .i64 q.y] 26)))
        have hm9 := (((Mv.puts (B := w.heap.size) HM3.out (by omega) 0 [.int .i64 0, .int .i64 0, .string ⟨#[]⟩, .int .i64 0, .int .i64 0]).old (box1 _ (.cells #[.int .i64 p.k, .int .i64 p.n, .string (tx p.s), .int .i64 p.x, .int .i64 p.y] 26))).old (box1 _ (.cells #[.int .i64 q.k, .int .i64 q.n, .string (tx q.s), .int .i64 q.x, .int .i64 q.y] 26)))
        have hxX := (((Box.puts (HX3.out) [.int .i64 0, .int .i64 0, .string ⟨#[]⟩, .int .i64 0, .int .i64 0] rfl).old (box1 _ (.cells #[.int .i64 p.k, .int .i64 p.n, .string (tx p.s), .int .i64 p.x, .int .i64 p.y] 26))).old (box1 _ (.cells #[.int .i64 q.k, .int .i64 q.n, .string (tx q.s), .int .i64 q.x, .int .i64 q.y] 26)))
        clear cX0 zX0 cX1 zX1 cX2 zX2 cX3 zX3 cX4 zX4 HD3 HM3 HX3 
        change bodyPost _ _ _ _ _ (((((((w3.setCell ⟨w.heap.size, 0, none⟩ (.int .i64 0)).setCell ⟨w.heap.size, 1, none⟩ (.int .i64 0)).setCell ⟨w.heap.size, 2, none⟩ (.string ⟨#[]⟩)).setCell ⟨w.heap.size, 3, none⟩ (.int .i64 0)).setCell ⟨w.heap.size, 4, none⟩ (.int .i64 0)).alloc (.cells #[.int .i64 p.k, .int .i64 p.n, .string (tx p.s), .int .i64 p.x, .int .i64 p.y] 26)).alloc (.cells #[.int .i64 q.k, .int .i64 q.n, .string (tx q.s), .int .i64 q.x, .int .i64 q.y] 26))
        change Doer _ _ _ _ _ _ _ _ _ ((((((((w3.setCell ⟨w.heap.size, 0, none⟩ (.int .i64 0)).setCell ⟨w.heap.size, 1, none⟩ (.int .i64 0)).setCell ⟨w.heap.size, 2, none⟩ (.string ⟨#[]⟩)).setCell ⟨w.heap.size, 3, none⟩ (.int .i64 0)).setCell ⟨w.heap.size, 4, none⟩ (.int .i64 0)).alloc (.cells #[.int .i64 p.k, .int .i64 p.n, .string (tx p.s), .int .i64 p.x, .int .i64 p.y] 26)).alloc (.cells #[.int .i64 q.k, .int .i64 q.n, .string (tx q.s), .int .i64 q.x, .int .i64 q.y] 26))) at hd9
        change Mv _ _ _ _ ((((((((w3.setCell ⟨w.heap.size, 0, none⟩ (.int .i64 0)).setCell ⟨w.heap.size, 1, none⟩ (.int .i64 0)).setCell ⟨w.heap.size, 2, none⟩ (.string ⟨#[]⟩)).setCell ⟨w.heap.size, 3, none⟩ (.int .i64 0)).setCell ⟨w.heap.size, 4, none⟩ (.int .i64 0)).alloc (.cells #[.int .i64 p.k, .int .i64 p.n, .string (tx p.s), .int .i64 p.x, .int .i64 p.y] 26)).alloc (.cells #[.int .i64 q.k, .int .i64 q.n, .string (tx q.s), .int .i64 q.x, .int .i64 q.y] 26))) at hm9
        change Box _ _ _ _ _ _ ((((((((w3.setCell ⟨w.heap.size, 0, none⟩ (.int .i64 0)).setCell ⟨w.heap.size, 1, none⟩ (.int .i64 0)).setCell ⟨w.heap.size, 2, none⟩ (.string ⟨#[]⟩)).setCell ⟨w.heap.size, 3, none⟩ (.int .i64 0)).setCell ⟨w.heap.size, 4, none⟩ (.int .i64 0)).alloc (.cells #[.int .i64 p.k, .int .i64 p.n, .string (tx p.s), .int .i64 p.x, .int .i64 p.y] 26)).alloc (.cells #[.int .i64 q.k, .int .i64 q.n, .string (tx q.s), .int .i64 q.x, .int .i64 q.y] 26))) at hxX
        generalize ((((((((w3.setCell ⟨w.heap.size, 0, none⟩ (.int .i64 0)).setCell ⟨w.heap.size, 1, none⟩ (.int .i64 0)).setCell ⟨w.heap.size, 2, none⟩ (.string ⟨#[]⟩)).setCell ⟨w.heap.size, 3, none⟩ (.int .i64 0)).setCell ⟨w.heap.size, 4, none⟩ (.int .i64 0)).alloc (.cells #[.int .i64 p.k, .int .i64 p.n, .string (tx p.s), .int .i64 p.x, .int .i64 p.y] 26)).alloc (.cells #[.int .i64 q.k, .int .i64 q.n, .string (tx q.s), .int .i64 q.x, .int .i64 q.y] 26))) = w9 at *
        have cX0 := hxX.blk.c 0 _ rfl
        have cX1 := hxX.blk.c 1 _ rfl
        have cX2 := hxX.blk.c 2 _ rfl
        have cX3 := hxX.blk.c 3 _ rfl
        have cX4 := hxX.blk.c 4 _ rfl
        refine bodyPost_ret (v := .tuple #[.agg #[.int .i64 0, .int .i64 0, .string ⟨#[]⟩, .int .i64 0, .int .i64 0], .int .i64 13]) (by simp [results, Tryz.results80, go_sem, cX0, cX1, cX2, cX3, cX4]) rfl ⟨vz, 13, S1, n1, ov1, rfl, Ans.er HR.out rfl (by decide), hd9, hm9⟩
end Go.Proofs.YtcdjincaedpodaaGreatDoor.Ev
/-
  The order of values: cmp.Or, orderSpots, Order.
-/
namespace Go.Proofs.YtcdjincaedpodaaGreatDoor.Va
open Go.ChangeShapes Go.WideShapes Go.ChangeAt Go.RowKit Go.Proofs.YtcdjincaedpodaaGreatDoor.Ov Go.Proofs.YtcdjincaedpodaaGreatDoor.Ga

theorem over_id {w : World} {P : Program} {f : FuncId} {args : Array Value} {v : Value} (q : Over w) (h : Calls P f args q.val fun e w' => e = .returned v ∧ q.val = w') :
    Calls P f args q.val fun e w' => e = .returned v ∧ ∃ q' : Over w, w' = q'.val := h.mono fun _ _ ⟨he, hw⟩ => ⟨he, q, hw.symm⟩
/-- The first that isn't 0. -/
def orl : List Int → Int
  | [] => 0
  | a :: t => if a ≠ 0 then a else orl t
theorem orl4 (a b c d : Int) : orl [a, b, c, d] = or4 a b c d := by
  unfold or4; simp only [orl]
  split
  · rfl
  · split
    · rfl
    · split
      · rfl
      · split
        · rfl
        · omega
theorem orl_drop {l : List Int} {k : Nat} (h : k < l.length) : orl (l.drop k) = if l[k] ≠ 0 then l[k] else orl (l.drop (k + 1)) := by
  rw [List.drop_eq_getElem_cons h]; rfl
set_option maxHeartbeats 1000000 in
theorem or_any (l : List Int) (b : Nat) (w : World) (h : Blk w b (l.map fun a => Value.int .i64 a)) (hl : l.length ≤ 4) : Calls Tryz.prog 128 #[.slice (some ⟨b, 0, none⟩) l.length l.length] w fun e w' => e = .returned (.int .i64 (orl l)) ∧ w = w' := by
  have H := Lib.hid h; clear h
  obtain ⟨n, hn⟩ : ∃ n, l.length = n := ⟨_, rfl⟩
  rw [hn] at hl ⊢
  have HN := Lib.hid hn; clear hn
  go_enter Tryz.func128, Tryz.ntmps128
  go_wp2_with (fail)
  go_loop [5, 8] (fun _ i => ∃ k : Nat, k ≤ n ∧ i = .int .i64 k ∧ orl l = orl (l.drop k)) (fun _ i => n - (intOf i).toNat)
  case atStart => exact ⟨0, Nat.zero_le _, rfl, by simp⟩
  case round =>
    obtain ⟨k, hk, rfl, hd⟩ := hrel
    have HD := Lib.hid hd; clear hd
    by_cases hlt : k < n
    · have hkl : k < l.length := by have := HN.out; omega
      obtain ⟨a, ha⟩ : ∃ a, l[k] = a := ⟨_, rfl⟩
      have HS : Hid (orl (l.drop k) = if a ≠ 0 then a else orl (l.drop (k + 1))) := by
        show _ = _
        rw [orl_drop hkl, ha]
      have hc : w.cell? ⟨b, k, none⟩ = some (.int .i64 a) := H.out.c k _ (by rw [List.getElem?_map, List.getElem?_eq_getElem hkl, ha]; rfl)
      clear ha hkl
      by_cases hz : a = 0
      · subst hz
        go_wp2_with (fail)
        go_round
        case rel => exact ⟨k + 1, by omega, by go_num, by rw [HD.out, HS.out]; rfl⟩
        case measure => simp [intOf]; omega
      · have hne : (a != 0) = true := bne_iff_ne.2 hz
        have HZ := Lib.hid hz; clear hz
        go_wp2_with (fail)
        go_ret
        exact ⟨ret_int (by rw [HD.out, HS.out, if_pos HZ.out]), rfl⟩
    · have HS : Hid (orl (l.drop k) = 0) := by
        show _ = _
        rw [List.drop_of_length_le (by have := HN.out; omega)]; rfl
      go_wp2_with (fail)
      go_ret
      exact ⟨ret_int (by rw [HD.out, HS.out]), rfl⟩
set_option maxHeartbeats 1000000 in
theorem spots_any (x y u v : Int) (w : World) : Calls Tryz.prog 131 #[.agg #[.int .i64 x, .int .i64 y], .agg #[.int .i64 u, .int .i64 v]] w (Gives (.int .i64 (cP x y u v)) w) := by
  have H1 := Lib.hid (less_any x y u v)
  have H2 := Lib.hid (less_any u v x y)
  have he : cP x y u v = if decide (x < u ∨ x = u ∧ y < v) = true then -1 else if decide (u < x ∨ u = x ∧ v < y) = true then 1 else 0 := by
    unfold cP; simp only [decide_eq_true_eq]
  rw [he]; clear he
  generalize decide (x < u ∨ x = u ∧ y < v) = p at *
  generalize decide (u < x ∨ u = x ∧ v < y) = q at *
  cases p
  · cases q
    · go_enter Tryz.func131, Tryz.ntmps131
      go_wp2_with (fail)
      refine (H1.out _).mono ?_
      rintro e w1 ⟨rfl, hb⟩
      have HB := Lib.hid (Below.next (box2 w _ _) hb)
      have D1 := ((Blk.made w 24 [.int .i64 x, .int .i64 y] rfl).old (.cells #[.int .i64 u, .int .i64 v] 24)).next hb
      have D2 := (Blk.made (w.alloc (.cells #[.int .i64 x, .int .i64 y] 24)) 24 [.int .i64 u, .int .i64 v] (World.size_alloc _ _)).next hb
      have c0 := D1.c 0 _ rfl
      have c1 := D1.c 1 _ rfl
      have c2 := D2.c 0 _ rfl
      have c3 := D2.c 1 _ rfl
      clear hb D1 D2
      go_wp2_with (fail)
      clear c0 c1 c2 c3
      refine (H2.out _).mono ?_
      rintro e w2 ⟨rfl, hb⟩
      have HB2 := Lib.hid (Below.next HB.out hb)
      clear hb
      go_wp2_with (fail)
      go_ret
      exact ⟨rfl, HB2.out⟩
    · go_enter Tryz.func131, Tryz.ntmps131
      go_wp2_with (fail)
      refine (H1.out _).mono ?_
      rintro e w1 ⟨rfl, hb⟩
      have HB := Lib.hid (Below.next (box2 w _ _) hb)
      have D1 := ((Blk.made w 24 [.int .i64 x, .int .i64 y] rfl).old (.cells #[.int .i64 u, .int .i64 v] 24)).next hb
      have D2 := (Blk.made (w.alloc (.cells #[.int .i64 x, .int .i64 y] 24)) 24 [.int .i64 u, .int .i64 v] (World.size_alloc _ _)).next hb
      have c0 := D1.c 0 _ rfl
      have c1 := D1.c 1 _ rfl
      have c2 := D2.c 0 _ rfl
      have c3 := D2.c 1 _ rfl
      clear hb D1 D2
      go_wp2_with (fail)
      clear c0 c1 c2 c3
      refine (H2.out _).mono ?_
      rintro e w2 ⟨rfl, hb⟩
      have HB2 := Lib.hid (Below.next HB.out hb)
      clear hb
      go_wp2_with (fail)
      go_ret
      exact ⟨rfl, HB2.out⟩
  · go_enter Tryz.func131, Tryz.ntmps131
    go_wp2_with (fail)
    refine (H1.out _).mono ?_
    rintro e w1 ⟨rfl, hb⟩
    have HB := Lib.hid (Below.next (box2 w _ _) hb)
    have D1 := ((Blk.made w 24 [.int .i64 x, .int .i64 y] rfl).old (.cells #[.int .i64 u, .int .i64 v] 24)).next hb
    have D2 := (Blk.made (w.alloc (.cells #[.int .i64 x, .int .i64 y] 24)) 24 [.int .i64 u, .int .i64 v] (World.size_alloc _ _)).next hb
    have c0 := D1.c 0 _ rfl
    have c1 := D1.c 1 _ rfl
    have c2 := D2.c 0 _ rfl
    have c3 := D2.c 1 _ rfl
    clear hb D1 D2
    go_wp2_with (fail)
    go_ret
    exact ⟨rfl, HB.out⟩
set_option maxHeartbeats 4000000 in
theorem order_val (k n x y k' n' x' y' : Int) (s s' : ByteArray) (w : World) : Calls Tryz.prog 96 #[.agg #[.int .i64 k, .int .i64 n, .string s, .int .i64 x, .int .i64 y], .agg #[.int .i64 k', .int .i64 n', .string s', .int .i64 x', .int .i64 y']] w
    (Gives (.int .i64 (ord ⟨k, n, s.data.toList, x, y⟩ ⟨k', n', s'.data.toList, x', y'⟩)) w) := by
  have HI := Lib.hid cmpI_any
  have HS := Lib.hid (cmpS_any s s')
  have HP := Lib.hid (spots_any x y x' y')
  have HE : Hid (ord ⟨k, n, s.data.toList, x, y⟩ ⟨k', n', s'.data.toList, x', y'⟩ = orl [cI k k', cI n n', cS s.data.toList s'.data.toList, cP x y x' y']) := by
    show _ = _
    rw [orl4]; rfl
  generalize cS s.data.toList s'.data.toList = c3 at *
  generalize cP x y x' y' = c4 at *
  go_enter Tryz.func96, Tryz.ntmps96
  go_wp2_with (fail)
  have kb := Lib.hid (box2 w (.cells #[.int .i64 k, .int .i64 n, .string s, .int .i64 x, .int .i64 y] 26) (.cells #[.int .i64 k', .int .i64 n', .string s', .int .i64 x', .int .i64 y'] 26))
  have D := (Blk.made w 26 (vcs k n s x y) rfl).old (.cells #[.int .i64 k', .int .i64 n', .string s', .int .i64 x', .int .i64 y'] 26)
  have E := Blk.made (w.alloc (.cells #[.int .i64 k, .int .i64 n, .string s, .int .i64 x, .int .i64 y] 26)) 26 (vcs k' n' s' x' y') (World.size_alloc _ _)
  change Blk ((w.alloc (.cells #[.int .i64 k, .int .i64 n, .string s, .int .i64 x, .int .i64 y] 26)).alloc (.cells #[.int .i64 k', .int .i64 n', .string s', .int .i64 x', .int .i64 y'] 26)) w.heap.size _ at D
  change Blk ((w.alloc (.cells #[.int .i64 k, .int .i64 n, .string s, .int .i64 x, .int .i64 y] 26)).alloc (.cells #[.int .i64 k', .int .i64 n', .string s', .int .i64 x', .int .i64 y'] 26)) (w.heap.size + 1) _ at E
  generalize (w.alloc (.cells #[.int .i64 k, .int .i64 n, .string s, .int .i64 x, .int .i64 y] 26)).alloc (.cells #[.int .i64 k', .int .i64 n', .string s', .int .i64 x', .int .i64 y'] 26) = v at *
  have d0 := fun r : Over v => (D.over r).v0
  have d1 := fun r : Over v => (D.over r).v1
  have d2 := fun r : Over v => (D.over r).v2
  have d3 := fun r : Over v => (D.over r).v3
  have d4 := fun r : Over v => (D.over r).v4
  have e0 := fun r : Over v => (E.over r).v0
  have e1 := fun r : Over v => (E.over r).v1
  have e2 := fun r : Over v => (E.over r).v2
  have e3 := fun r : Over v => (E.over r).v3
  have e4 := fun r : Over v => (E.over r).v4
  clear D E
  refine wp_over_tail 20 (by kernel_rfl) (by kernel_rfl) ?_
  simp only [List.take_succ_cons, List.take_zero, List.drop_succ_cons, List.drop_zero]
  repeat (go_big_quiet_step (first | fail | with_reducible exact over_id _ (HI.out _ _ _) | with_reducible exact over_id _ (HS.out _) | with_reducible exact over_gives _ (HP.out _)))
  refine wpQuiet_nil ?_
  rintro w2 ⟨⟨w2, hb⟩, rfl⟩
  have HB := Lib.hid (Below.next kb.out hb)
  clear hb kb d0 d1 d2 d3 d4 e0 e1 e2 e3 e4
  go_wp2_with (fail)
  refine (or_any [cI k k', cI n n', c3, c4] w2.heap.size _ (Blk.made w2 3 [.int .i64 (cI k k'), .int .i64 (cI n n'), .int .i64 c3, .int .i64 c4] rfl) (Nat.le_refl _)).mono ?_
  rintro e w' ⟨rfl, rfl⟩
  have HB2 := Lib.hid (Below.next HB.out (box1 w2 (.cells #[.int .i64 (cI k k'), .int .i64 (cI n n'), .int .i64 c3, .int .i64 c4] 3)))
  go_wp2_with (fail)
  go_ret
  exact ⟨ret_int HE.out.symm, HB2.out⟩
end Go.Proofs.YtcdjincaedpodaaGreatDoor.Va

/-
  The texts of this claim, lot 5: EvDeed4, EvStr, EvWds, EvDeed5, EvStand, ExNames, EvDeed6, EvDeed7.
-/
import Derived.Test.YtcdjincaedpodaaGreatDoorLot4
import Derived.Deep.QuietTactic
import Derived.BigQuiet
import Derived.Defers
import Derived.ChangeKeysEq
/-
  Deeds on two values of one kind (written by gen_evalike.py).
-/
namespace Go.Proofs.YtcdjincaedpodaaGreatDoor.Ev
open Go.ChangeShapes Go.WideShapes Go.ChangeAt Go.RowKit Go.Proofs.YtcdjincaedpodaaGreatDoor.Ov Go.Proofs.YtcdjincaedpodaaGreatDoor.Va Go.Proofs.YtcdjincaedpodaaGreatDoor.Ga Go.Proofs.YtcdjincaedpodaaGreatDoor.Ex

theorem alk_bnd {o : Int} (f : M (List Va)) (h : ∀ l : List Va, (at0 l).k ≠ (at1 l).k → af o l = fail 13) : bnd f (af o) = bnd (bnd f alk) (af o) := by
  rw [bnd_assoc]
  congr 1
  funext l
  unfold alk
  split
  · rw [h l ‹_›]; rfl
  · rfl
theorem rk_unlike {o : Int} {a b : Va} (h : a.k ≠ b.k) : lift (rk o a b) = fail 13 := by unfold rk; rw [if_pos h]; rfl
theorem af_rk {o : Int} (h : o = 2 ∨ o = 3 ∨ o = 4 ∨ o = 5 ∨ o = 6) (l : List Va) : af o l = lift (rk o (at0 l) (at1 l)) := by
  unfold af pu
  rw [if_neg (by omega), if_pos h]
theorem af_less (l : List Va) : af 8 l = lift (if (at0 l).k ≠ (at1 l).k then .inl 13 else .inr (tr (decide (ord (at0 l) (at1 l) < 0)))) := rfl
theorem af_max (l : List Va) : af 12 l = lift (if (at0 l).k ≠ (at1 l).k then .inl 13 else .inr (if 0 < ord (at0 l) (at1 l) then at0 l else at1 l)) := rfl
theorem af_min (l : List Va) : af 13 l = lift (if (at0 l).k ≠ (at1 l).k then .inl 13 else .inr (if 0 < ord (at0 l) (at1 l) then at1 l else at0 l)) := rfl
theorem rt_pv_rb (x y : Int) : rt (pv x y) = rb ⟨x, y⟩ := by
  rcases Bool.eq_false_or_eq_true (rb ⟨x, y⟩) with h | h
  · rw [h]; exact rt_pv h
  · rw [h]
    rcases Bool.eq_false_or_eq_true (rt (pv x y)) with g | g
    · have := (rt_all g).2.2.1
      unfold pt at this
      rw [show rb ⟨(pv x y).x, (pv x y).y⟩ = rb ⟨x, y⟩ from rfl, h] at this
      cases this
    · exact g
theorem ans_cke (p : Pt) : ∃ (q : Pt) (e : Int), ans (rb p) p = .tuple #[.agg #[.int .i64 q.x, .int .i64 q.y], .int .i64 e] ∧ chk (pv p.x p.y) = cke e (pv q.x q.y) := by
  unfold ans cke chk
  rcases Bool.eq_false_or_eq_true (rb p) with h | h
  · rw [h]
    exact ⟨p, 0, rfl, rfl⟩
  · rw [h]
    exact ⟨⟨0, 0⟩, 14, rfl, by rw [rt_pv_rb, show rb ⟨p.x, p.y⟩ = rb p from rfl, h]; rfl⟩
theorem spots_add (a b : Pt) : spots 2 a b = chk (pv (a.add b).x (a.add b).y) := rfl
theorem spots_sub (a b : Pt) : spots 3 a b = chk (pv (a.sub b).x (a.sub b).y) := rfl
theorem spots_mul (a b : Pt) : spots 4 a b = chk (pv (a.mul b).x (a.mul b).y) := rfl
theorem rk_add : RkC 2 81 82 :=
  ⟨run_enter Tryz.func81 (by kernel_rfl) (by kernel_rfl), run_enter Tryz.func82 (by kernel_rfl) (by kernel_rfl),
    fun a b ha hb => ⟨a + b, 0, fun w => esum_any a b ha hb w, rfl⟩, fun a b ha hb => by
      obtain ⟨q, e, h1, h2⟩ := ans_cke (a.add b)
      refine ⟨q, e, fun w => ?_, by rw [spots_add, h2]⟩
      have h := Ga.add_any a.x a.y b.x b.y w
      rw [show rb ⟨a.x, a.y⟩ = true from ha, show rb ⟨b.x, b.y⟩ = true from hb] at h
      rw [← h1]; exact h⟩
theorem rk_sub : RkC 3 83 84 :=
  ⟨run_enter Tryz.func83 (by kernel_rfl) (by kernel_rfl), run_enter Tryz.func84 (by kernel_rfl) (by kernel_rfl),
    fun a b ha hb => ⟨a - b, 0, fun w => ediff_any a b ha hb w, rfl⟩, fun a b ha hb => by
      obtain ⟨q, e, h1, h2⟩ := ans_cke (a.sub b)
      refine ⟨q, e, fun w => ?_, by rw [spots_sub, h2]⟩
      have h := Ga.sub_any a.x a.y b.x b.y w
      rw [show rb ⟨a.x, a.y⟩ = true from ha, show rb ⟨b.x, b.y⟩ = true from hb] at h
      rw [← h1]; exact h⟩
theorem epv_cke (a b : Int) : ∃ r e : Int, epv a b = .tuple #[.int .i64 r, .int .i64 e] ∧ nums 4 a b = cke e (nv r) := by
  unfold epv
  by_cases h : -9007199254740992 ≤ a * b ∧ a * b ≤ 9007199254740992
  · rw [if_pos h]; exact ⟨a * b, 0, rfl, rfl⟩
  · rw [if_neg h]
    refine ⟨0, 14, rfl, ?_⟩
    show chk (nv (a * b)) = .inl 14
    unfold chk
    rw [if_neg (fun g => h (rt_all g).1)]
theorem rk_mul : RkC 4 85 86 :=
  ⟨run_enter Tryz.func85 (by kernel_rfl) (by kernel_rfl), run_enter Tryz.func86 (by kernel_rfl) (by kernel_rfl),
    fun a b ha hb => by
      obtain ⟨r, e, h1, h2⟩ := epv_cke a b
      exact ⟨r, e, fun w => by rw [← h1]; exact eprod_any a b ha hb w, h2⟩, fun a b ha hb => by
      obtain ⟨q, e, h1, h2⟩ := ans_cke (a.mul b)
      refine ⟨q, e, fun w => ?_, by rw [spots_mul, h2]⟩
      have h := Ga.mul_any a.x a.y b.x b.y w
      rw [show rb ⟨a.x, a.y⟩ = true from ha, show rb ⟨b.x, b.y⟩ = true from hb] at h
      rw [← h1]; exact h⟩
theorem spots_zero {o : Int} (h : o = 5 ∨ o = 6) (a : Pt) : spots o a Pt.zero = .inl 16 := by
  unfold spots
  rw [if_neg (by omega), if_neg (by omega), if_neg (by omega), if_pos rfl]
theorem spots_quo {a b : Pt} (ha : rb a = true) (h : b ≠ Pt.zero) : spots 5 a b = chk (pv (a.quo b).x (a.quo b).y) := by
  unfold spots chk
  rw [if_neg (by decide), if_neg (by decide), if_neg (by decide), if_neg h, if_pos rfl]
  exact (if_pos (show rt (pv (a.quo b).x (a.quo b).y) = true from rt_pv (Pt.quo_right ha h))).symm
theorem spots_rest {a b : Pt} (hb : rb b = true) (h : b ≠ Pt.zero) : spots 6 a b = chk (pv (a.rest b).x (a.rest b).y) := by
  unfold spots chk
  rw [if_neg (by decide), if_neg (by decide), if_neg (by decide), if_neg h, if_neg (by decide)]
  exact (if_pos (show rt (pv (a.rest b).x (a.rest b).y) = true from rt_pv (Pt.rest_right hb h))).symm
theorem nums_zero {o : Int} (h : o = 5 ∨ o = 6) (a : Int) : nums o a 0 = .inl 16 := by
  unfold nums
  rw [if_neg (by omega), if_neg (by omega), if_neg (by omega), if_pos rfl]
theorem nums_quo {a b : Int} (h : b ≠ 0) : nums 5 a b = chk (nv (qf a b)) := by
  unfold nums
  rw [if_neg (by decide), if_neg (by decide), if_neg (by decide), if_neg h, if_pos rfl]
theorem nums_rest {a b : Int} (hb : -9007199254740992 ≤ b ∧ b ≤ 9007199254740992) (h : b ≠ 0) : nums 6 a b = chk (nv (a - qf a b * b)) := by
  have := qf_rest (a := a) h
  unfold nums chk
  rw [if_neg (by decide), if_neg (by decide), if_neg (by decide), if_neg h, if_neg (by decide), if_pos (rt_nv (by omega))]
theorem rk_div : RkC 5 87 88 :=
  ⟨run_enter Tryz.func87 (by kernel_rfl) (by kernel_rfl), run_enter Tryz.func88 (by kernel_rfl) (by kernel_rfl),
    fun a b ha hb => by
      by_cases h : b = 0
      · subst h; exact ⟨0, 16, fun w => equo_zero a w, by rw [nums_zero (.inl rfl)]; rfl⟩
      · exact ⟨qf a b, 0, fun w => equo_any a b ha h w, by rw [nums_quo h]; rfl⟩, fun a b ha hb => by
      by_cases h : b = Pt.zero
      · subst h; exact ⟨⟨0, 0⟩, 16, fun w => esq_zero a.x a.y ha w, by rw [spots_zero (.inl rfl)]; rfl⟩
      · exact ⟨a.quo b, 0, fun w => esq_yes a.x a.y b.x b.y ha hb h w, by rw [spots_quo ha h]; rfl⟩⟩
theorem rk_mod : RkC 6 89 90 :=
  ⟨run_enter Tryz.func89 (by kernel_rfl) (by kernel_rfl), run_enter Tryz.func90 (by kernel_rfl) (by kernel_rfl),
    fun a b ha hb => by
      by_cases h : b = 0
      · subst h; exact ⟨a, 16, fun w => erest_zero a ha w, by rw [nums_zero (.inr rfl)]; rfl⟩
      · exact ⟨a - qf a b * b, 0, fun w => erest_any a b ha hb h w, by rw [nums_rest hb h]; rfl⟩, fun a b ha hb => by
      by_cases h : b = Pt.zero
      · subst h; exact ⟨⟨0, 0⟩, 16, fun w => esr_zero a.x a.y ha w, by rw [spots_zero (.inr rfl)]; rfl⟩
      · exact ⟨a.rest b, 0, fun w => esr_yes a.x a.y b.x b.y ha hb h w, by rw [spots_rest hb h]; rfl⟩⟩
theorem order_va (p q : Va) (w : World) : Calls Tryz.prog 96 #[.agg #[.int .i64 p.k, .int .i64 p.n, .string (tx p.s), .int .i64 p.x, .int .i64 p.y], .agg #[.int .i64 q.k, .int .i64 q.n, .string (tx q.s), .int .i64 q.x, .int .i64 q.y]] w (Gives (.int .i64 (ord p q)) w) := by
  have h := order_val p.k p.n p.x p.y q.k q.n q.x q.y (tx p.s) (tx q.s) w
  rw [tx_list, tx_list] at h
  exact h
set_option maxRecDepth 100000 in
set_option maxHeartbeats 2000000 in
theorem deed_add {d : Nat} (HD : DoC (ev d) d) : DeedC d 2 36 := by
  intro w0 A c E b l S n ov w k r hcx hd hg hkl ho hrn hx hd24
  have HBD : Hid (body (ev d) (nd l k) (l.drop (k + 1)) S n = bnd (bnd (prt (ev d) [-1, -1] (l.drop (k + 1))) alk) (af 2) S n) := by show _ = _; exact (congrFun (congrFun (body_prt ho (by decide) (by decide) (by decide) (by decide) (by decide) (by decide)) S) n).trans (congrFun (congrFun (alk_bnd _ (fun l h => (af_rk (by decide) l).trans (rk_unlike h))) S) n)
  rw [show af 2 = fun l => lift (rk 2 (at0 l) (at1 l)) from funext fun l => af_rk (by decide) l] at HBD
  have HP := Lib.hid (reckon_any rk_add HD hcx (hd.old (box1 w vbox)) hg hkl hx (by decide) hd24)
  have hb0 : Box w0 b E ov w.heap.size [.int .i64 0, .int .i64 0, .string ⟨#[]⟩, .int .i64 0, .int .i64 0] (w.alloc vbox) := Box.made hd (by omega) 26 [.int .i64 0, .int .i64 0, .string ⟨#[]⟩, .int .i64 0, .int .i64 0]
  have hm0 : Mv b ov w ov (w.alloc vbox) := Mv.of (box1 w vbox)
  have HB0 := Lib.hid hb0; have HM0 := Lib.hid hm0
  clear hcx hd hg hx ho hrn hd24 HD hb0 hm0
  go_enter Tryz.func36, Tryz.ntmps36
  go_wp2_with (fail)
  refine (HP.out).mono ?_
  rintro e w3 ⟨v, x, S1, n1, ov1, rfl, ha, hd3, hm3⟩
  have HA := Lib.hid ha; have HD3 := Lib.hid hd3
  have HX3 := Lib.hid (HB0.out.mv hm3); have HM3 := Lib.hid (HM0.out.trans hm3)
  have hlZ := HX3.out.blk.lt
  clear ha hd3 hm3 HP HB0 HM0
  have cX0 := HX3.out.blk.c 0 _ rfl; have zX0 := HX3.out.blk.f 0 _ rfl
  have cX1 := HX3.out.blk.c 1 _ rfl; have zX1 := HX3.out.blk.f 1 _ rfl
  have cX2 := HX3.out.blk.c 2 _ rfl; have zX2 := HX3.out.blk.f 2 _ rfl
  have cX3 := HX3.out.blk.c 3 _ rfl; have zX3 := HX3.out.blk.f 3 _ rfl
  have cX4 := HX3.out.blk.c 4 _ rfl; have zX4 := HX3.out.blk.f 4 _ rfl
  have hltX := HX3.out.blk.lt
  go_wp2_with (fail)
  have hd9 := (HD3.out.puts HX3.out 0 [.int .i64 v.k, .int .i64 v.n, .string (tx v.s), .int .i64 v.x, .int .i64 v.y])
  have hm9 := (Mv.puts (B := w.heap.size) HM3.out (by omega) 0 [.int .i64 v.k, .int .i64 v.n, .string (tx v.s), .int .i64 v.x, .int .i64 v.y])
  have hxX := (Box.puts (HX3.out) [.int .i64 v.k, .int .i64 v.n, .string (tx v.s), .int .i64 v.x, .int .i64 v.y] rfl)
  clear cX0 zX0 cX1 zX1 cX2 zX2 cX3 zX3 cX4 zX4 HD3 HM3 HX3 
  change bodyPost _ _ _ _ _ (((((w3.setCell ⟨w.heap.size, 0, none⟩ (.int .i64 v.k)).setCell ⟨w.heap.size, 1, none⟩ (.int .i64 v.n)).setCell ⟨w.heap.size, 2, none⟩ (.string (tx v.s))).setCell ⟨w.heap.size, 3, none⟩ (.int .i64 v.x)).setCell ⟨w.heap.size, 4, none⟩ (.int .i64 v.y))
  change Doer _ _ _ _ _ _ _ _ _ ((((((w3.setCell ⟨w.heap.size, 0, none⟩ (.int .i64 v.k)).setCell ⟨w.heap.size, 1, none⟩ (.int .i64 v.n)).setCell ⟨w.heap.size, 2, none⟩ (.string (tx v.s))).setCell ⟨w.heap.size, 3, none⟩ (.int .i64 v.x)).setCell ⟨w.heap.size, 4, none⟩ (.int .i64 v.y))) at hd9
  change Mv _ _ _ _ ((((((w3.setCell ⟨w.heap.size, 0, none⟩ (.int .i64 v.k)).setCell ⟨w.heap.size, 1, none⟩ (.int .i64 v.n)).setCell ⟨w.heap.size, 2, none⟩ (.string (tx v.s))).setCell ⟨w.heap.size, 3, none⟩ (.int .i64 v.x)).setCell ⟨w.heap.size, 4, none⟩ (.int .i64 v.y))) at hm9
  change Box _ _ _ _ _ _ ((((((w3.setCell ⟨w.heap.size, 0, none⟩ (.int .i64 v.k)).setCell ⟨w.heap.size, 1, none⟩ (.int .i64 v.n)).setCell ⟨w.heap.size, 2, none⟩ (.string (tx v.s))).setCell ⟨w.heap.size, 3, none⟩ (.int .i64 v.x)).setCell ⟨w.heap.size, 4, none⟩ (.int .i64 v.y))) at hxX
  generalize ((((((w3.setCell ⟨w.heap.size, 0, none⟩ (.int .i64 v.k)).setCell ⟨w.heap.size, 1, none⟩ (.int .i64 v.n)).setCell ⟨w.heap.size, 2, none⟩ (.string (tx v.s))).setCell ⟨w.heap.size, 3, none⟩ (.int .i64 v.x)).setCell ⟨w.heap.size, 4, none⟩ (.int .i64 v.y))) = w9 at *
  have cX0 := hxX.blk.c 0 _ rfl
  have cX1 := hxX.blk.c 1 _ rfl
  have cX2 := hxX.blk.c 2 _ rfl
  have cX3 := hxX.blk.c 3 _ rfl
  have cX4 := hxX.blk.c 4 _ rfl
  refine bodyPost_ret (v := .tuple #[.agg #[.int .i64 v.k, .int .i64 v.n, .string (tx v.s), .int .i64 v.x, .int .i64 v.y], .int .i64 x]) (by simp [results, Tryz.results36, go_sem, cX0, cX1, cX2, cX3, cX4]) rfl ⟨v, x, S1, n1, ov1, rfl, by rw [HBD.out]; exact HA.out, hd9, hm9⟩
set_option maxRecDepth 100000 in
set_option maxHeartbeats 2000000 in
theorem deed_sub {d : Nat} (HD : DoC (ev d) d) : DeedC d 3 37 := by
  intro w0 A c E b l S n ov w k r hcx hd hg hkl ho hrn hx hd24
  have HBD : Hid (body (ev d) (nd l k) (l.drop (k + 1)) S n = bnd (bnd (prt (ev d) [-1, -1] (l.drop (k + 1))) alk) (af 3) S n) := by show _ = _; exact (congrFun (congrFun (body_prt ho (by decide) (by decide) (by decide) (by decide) (by decide) (by decide)) S) n).trans (congrFun (congrFun (alk_bnd _ (fun l h => (af_rk (by decide) l).trans (rk_unlike h))) S) n)
  rw [show af 3 = fun l => lift (rk 3 (at0 l) (at1 l)) from funext fun l => af_rk (by decide) l] at HBD
  have HP := Lib.hid (reckon_any rk_sub HD hcx (hd.old (box1 w vbox)) hg hkl hx (by decide) hd24)
  have hb0 : Box w0 b E ov w.heap.size [.int .i64 0, .int .i64 0, .string ⟨#[]⟩, .int .i64 0, .int .i64 0] (w.alloc vbox) := Box.made hd (by omega) 26 [.int .i64 0, .int .i64 0, .string ⟨#[]⟩, .int .i64 0, .int .i64 0]
  have hm0 : Mv b ov w ov (w.alloc vbox) := Mv.of (box1 w vbox)
  have HB0 := Lib.hid hb0; have HM0 := Lib.hid hm0
  clear hcx hd hg hx ho hrn hd24 HD hb0 hm0
  go_enter Tryz.func37, Tryz.ntmps37
  go_wp2_with (fail)
  refine (HP.out).mono ?_
  rintro e w3 ⟨v, x, S1, n1, ov1, rfl, ha, hd3, hm3⟩
  have HA := Lib.hid ha; have HD3 := Lib.hid hd3
  have HX3 := Lib.hid (HB0.out.mv hm3); have HM3 := Lib.hid (HM0.out.trans hm3)
  have hlZ := HX3.out.blk.lt
  clear ha hd3 hm3 HP HB0 HM0
  have cX0 := HX3.out.blk.c 0 _ rfl; have zX0 := HX3.out.blk.f 0 _ rfl
  have cX1 := HX3.out.blk.c 1 _ rfl; have zX1 := HX3.out.blk.f 1 _ rfl
  have cX2 := HX3.out.blk.c 2 _ rfl; have zX2 := HX3.out.blk.f 2 _ rfl
  have cX3 := HX3.out.blk.c 3 _ rfl; have zX3 := HX3.out.blk.f 3 _ rfl
  have cX4 := HX3.out.blk.c 4 _ rfl; have zX4 := HX3.out.blk.f 4 _ rfl
  have hltX := HX3.out.blk.lt
  go_wp2_with (fail)
  have hd9 := (HD3.out.puts HX3.out 0 [.int .i64 v.k, .int .i64 v.n, .string (tx v.s), .int .i64 v.x, .int .i64 v.y])
  have hm9 := (Mv.puts (B := w.heap.size) HM3.out (by omega) 0 [.int .i64 v.k, .int .i64 v.n, .string (tx v.s), .int .i64 v.x, .int .i64 v.y])
  have hxX := (Box.puts (HX3.out) [.int .i64 v.k, .int .i64 v.n, .string (tx v.s), .int .i64 v.x, .int .i64 v.y] rfl)
  clear cX0 zX0 cX1 zX1 cX2 zX2 cX3 zX3 cX4 zX4 HD3 HM3 HX3 
  change bodyPost _ _ _ _ _ (((((w3.setCell ⟨w.heap.size, 0, none⟩ (.int .i64 v.k)).setCell ⟨w.heap.size, 1, none⟩ (.int .i64 v.n)).setCell ⟨w.heap.size, 2, none⟩ (.string (tx v.s))).setCell ⟨w.heap.size, 3, none⟩ (.int .i64 v.x)).setCell ⟨w.heap.size, 4, none⟩ (.int .i64 v.y))
  change Doer _ _ _ _ _ _ _ _ _ ((((((w3.setCell ⟨w.heap.size, 0, none⟩ (.int .i64 v.k)).setCell ⟨w.heap.size, 1, none⟩ (.int .i64 v.n)).setCell ⟨w.heap.size, 2, none⟩ (.string (tx v.s))).setCell ⟨w.heap.size, 3, none⟩ (.int .i64 v.x)).setCell ⟨w.heap.size, 4, none⟩ (.int .i64 v.y))) at hd9
  change Mv _ _ _ _ ((((((w3.setCell ⟨w.heap.size, 0, none⟩ (.int .i64 v.k)).setCell ⟨w.heap.size, 1, none⟩ (.int .i64 v.n)).setCell ⟨w.heap.size, 2, none⟩ (.string (tx v.s))).setCell ⟨w.heap.size, 3, none⟩ (.int .i64 v.x)).setCell ⟨w.heap.size, 4, none⟩ (.int .i64 v.y))) at hm9
  change Box _ _ _ _ _ _ ((((((w3.setCell ⟨w.heap.size, 0, none⟩ (.int .i64 v.k)).setCell ⟨w.heap.size, 1, none⟩ (.int .i64 v.n)).setCell ⟨w.heap.size, 2, none⟩ (.string (tx v.s))).setCell ⟨w.heap.size, 3, none⟩ (.int .i64 v.x)).setCell ⟨w.heap.size, 4, none⟩ (.int .i64 v.y))) at hxX
  generalize ((((((w3.setCell ⟨w.heap.size, 0, none⟩ (.int .i64 v.k)).setCell ⟨w.heap.size, 1, none⟩ (.int .i64 v.n)).setCell ⟨w.heap.size, 2, none⟩ (.string (tx v.s))).setCell ⟨w.heap.size, 3, none⟩ (.int .i64 v.x)).setCell ⟨w.heap.size, 4, none⟩ (.int .i64 v.y))) = w9 at *
  have cX0 := hxX.blk.c 0 _ rfl
  have cX1 := hxX.blk.c 1 _ rfl
  have cX2 := hxX.blk.c 2 _ rfl
  have cX3 := hxX.blk.c 3 _ rfl
  have cX4 := hxX.blk.c 4 _ rfl
  refine bodyPost_ret (v := .tuple #[.agg #[.int .i64 v.k, .int .i64 v.n, .string (tx v.s), .int .i64 v.x, .int .i64 v.y], .int .i64 x]) (by simp [results, Tryz.results37, go_sem, cX0, cX1, cX2, cX3, cX4]) rfl ⟨v, x, S1, n1, ov1, rfl, by rw [HBD.out]; exact HA.out, hd9, hm9⟩
set_option maxRecDepth 100000 in
set_option maxHeartbeats 2000000 in
theorem deed_mul {d : Nat} (HD : DoC (ev d) d) : DeedC d 4 38 := by
  intro w0 A c E b l S n ov w k r hcx hd hg hkl ho hrn hx hd24
  have HBD : Hid (body (ev d) (nd l k) (l.drop (k + 1)) S n = bnd (bnd (prt (ev d) [-1, -1] (l.drop (k + 1))) alk) (af 4) S n) := by show _ = _; exact (congrFun (congrFun (body_prt ho (by decide) (by decide) (by decide) (by decide) (by decide) (by decide)) S) n).trans (congrFun (congrFun (alk_bnd _ (fun l h => (af_rk (by decide) l).trans (rk_unlike h))) S) n)
  rw [show af 4 = fun l => lift (rk 4 (at0 l) (at1 l)) from funext fun l => af_rk (by decide) l] at HBD
  have HP := Lib.hid (reckon_any rk_mul HD hcx (hd.old (box1 w vbox)) hg hkl hx (by decide) hd24)
  have hb0 : Box w0 b E ov w.heap.size [.int .i64 0, .int .i64 0, .string ⟨#[]⟩, .int .i64 0, .int .i64 0] (w.alloc vbox) := Box.made hd (by omega) 26 [.int .i64 0, .int .i64 0, .string ⟨#[]⟩, .int .i64 0, .int .i64 0]
  have hm0 : Mv b ov w ov (w.alloc vbox) := Mv.of (box1 w vbox)
  have HB0 := Lib.hid hb0; have HM0 := Lib.hid hm0
  clear hcx hd hg hx ho hrn hd24 HD hb0 hm0
  go_enter Tryz.func38, Tryz.ntmps38
  go_wp2_with (fail)
  refine (HP.out).mono ?_
  rintro e w3 ⟨v, x, S1, n1, ov1, rfl, ha, hd3, hm3⟩
  have HA := Lib.hid ha; have HD3 := Lib.hid hd3
  have HX3 := Lib.hid (HB0.out.mv hm3); have HM3 := Lib.hid (HM0.out.trans hm3)
  have hlZ := HX3.out.blk.lt
  clear ha hd3 hm3 HP HB0 HM0
  have cX0 := HX3.out.blk.c 0 _ rfl; have zX0 := HX3.out.blk.f 0 _ rfl
  have cX1 := HX3.out.blk.c 1 _ rfl; have zX1 := HX3.out.blk.f 1 _ rfl
  have cX2 := HX3.out.blk.c 2 _ rfl; have zX2 := HX3.out.blk.f 2 _ rfl
  have cX3 := HX3.out.blk.c 3 _ rfl; have zX3 := HX3.out.blk.f 3 _ rfl
  have cX4 := HX3.out.blk.c 4 _ rfl; have zX4 := HX3.out.blk.f 4 _ rfl
  have hltX := HX3.out.blk.lt
  go_wp2_with (fail)
  have hd9 := (HD3.out.puts HX3.out 0 [.int .i64 v.k, .int .i64 v.n, .string (tx v.s), .int .i64 v.x, .int .i64 v.y])
  have hm9 := (Mv.puts (B := w.heap.size) HM3.out (by omega) 0 [.int .i64 v.k, .int .i64 v.n, .string (tx v.s), .int .i64 v.x, .int .i64 v.y])
  have hxX := (Box.puts (HX3.out) [.int .i64 v.k, .int .i64 v.n, .string (tx v.s), .int .i64 v.x, .int .i64 v.y] rfl)
  clear cX0 zX0 cX1 zX1 cX2 zX2 cX3 zX3 cX4 zX4 HD3 HM3 HX3 
  change bodyPost _ _ _ _ _ (((((w3.setCell ⟨w.heap.size, 0, none⟩ (.int .i64 v.k)).setCell ⟨w.heap.size, 1, none⟩ (.int .i64 v.n)).setCell ⟨w.heap.size, 2, none⟩ (.string (tx v.s))).setCell ⟨w.heap.size, 3, none⟩ (.int .i64 v.x)).setCell ⟨w.heap.size, 4, none⟩ (.int .i64 v.y))
  change Doer _ _ _ _ _ _ _ _ _ ((((((w3.setCell ⟨w.heap.size, 0, none⟩ (.int .i64 v.k)).setCell ⟨w.heap.size, 1, none⟩ (.int .i64 v.n)).setCell ⟨w.heap.size, 2, none⟩ (.string (tx v.s))).setCell ⟨w.heap.size, 3, none⟩ (.int .i64 v.x)).setCell ⟨w.heap.size, 4, none⟩ (.int .i64 v.y))) at hd9
  change Mv _ _ _ _ ((((((w3.setCell ⟨w.heap.size, 0, none⟩ (.int .i64 v.k)).setCell ⟨w.heap.size, 1, none⟩ (.int .i64 v.n)).setCell ⟨w.heap.size, 2, none⟩ (.string (tx v.s))).setCell ⟨w.heap.size, 3, none⟩ (.int .i64 v.x)).setCell ⟨w.heap.size, 4, none⟩ (.int .i64 v.y))) at hm9
  change Box _ _ _ _ _ _ ((((((w3.setCell ⟨w.heap.size, 0, none⟩ (.int .i64 v.k)).setCell ⟨w.heap.size, 1, none⟩ (.int .i64 v.n)).setCell ⟨w.heap.size, 2, none⟩ (.string (tx v.s))).setCell ⟨w.heap.size, 3, none⟩ (.int .i64 v.x)).setCell ⟨w.heap.size, 4, none⟩ (.int .i64 v.y))) at hxX
  generalize ((((((w3.setCell ⟨w.heap.size, 0, none⟩ (.int .i64 v.k)).setCell ⟨w.heap.size, 1, none⟩ (.int .i64 v.n)).setCell ⟨w.heap.size, 2, none⟩ (.string (tx v.s))).setCell ⟨w.heap.size, 3, none⟩ (.int .i64 v.x)).setCell ⟨w.heap.size, 4, none⟩ (.int .i64 v.y))) = w9 at *
  have cX0 := hxX.blk.c 0 _ rfl
  have cX1 := hxX.blk.c 1 _ rfl
  have cX2 := hxX.blk.c 2 _ rfl
  have cX3 := hxX.blk.c 3 _ rfl
  have cX4 := hxX.blk.c 4 _ rfl
  refine bodyPost_ret (v := .tuple #[.agg #[.int .i64 v.k, .int .i64 v.n, .string (tx v.s), .int .i64 v.x, .int .i64 v.y], .int .i64 x]) (by simp [results, Tryz.results38, go_sem, cX0, cX1, cX2, cX3, cX4]) rfl ⟨v, x, S1, n1, ov1, rfl, by rw [HBD.out]; exact HA.out, hd9, hm9⟩
set_option maxRecDepth 100000 in
set_option maxHeartbeats 2000000 in
theorem deed_div {d : Nat} (HD : DoC (ev d) d) : DeedC d 5 39 := by
  intro w0 A c E b l S n ov w k r hcx hd hg hkl ho hrn hx hd24
  have HBD : Hid (body (ev d) (nd l k) (l.drop (k + 1)) S n = bnd (bnd (prt (ev d) [-1, -1] (l.drop (k + 1))) alk) (af 5) S n) := by show _ = _; exact (congrFun (congrFun (body_prt ho (by decide) (by decide) (by decide) (by decide) (by decide) (by decide)) S) n).trans (congrFun (congrFun (alk_bnd _ (fun l h => (af_rk (by decide) l).trans (rk_unlike h))) S) n)
  rw [show af 5 = fun l => lift (rk 5 (at0 l) (at1 l)) from funext fun l => af_rk (by decide) l] at HBD
  have HP := Lib.hid (reckon_any rk_div HD hcx (hd.old (box1 w vbox)) hg hkl hx (by decide) hd24)
  have hb0 : Box w0 b E ov w.heap.size [.int .i64 0, .int .i64 0, .string ⟨#[]⟩, .int .i64 0, .int .i64 0] (w.alloc vbox) := Box.made hd (by omega) 26 [.int .i64 0, .int .i64 0, .string ⟨#[]⟩, .int .i64 0, .int .i64 0]
  have hm0 : Mv b ov w ov (w.alloc vbox) := Mv.of (box1 w vbox)
  have HB0 := Lib.hid hb0; have HM0 := Lib.hid hm0
  clear hcx hd hg hx ho hrn hd24 HD hb0 hm0
  go_enter Tryz.func39, Tryz.ntmps39
  go_wp2_with (fail)
  refine (HP.out).mono ?_
  rintro e w3 ⟨v, x, S1, n1, ov1, rfl, ha, hd3, hm3⟩
  have HA := Lib.hid ha; have HD3 := Lib.hid hd3
  have HX3 := Lib.hid (HB0.out.mv hm3); have HM3 := Lib.hid (HM0.out.trans hm3)
  have hlZ := HX3.out.blk.lt
  clear ha hd3 hm3 HP HB0 HM0
  have cX0 := HX3.out.blk.c 0 _ rfl; have zX0 := HX3.out.blk.f 0 _ rfl
  have cX1 := HX3.out.blk.c 1 _ rfl; have zX1 := HX3.out.blk.f 1 _ rfl
  have cX2 := HX3.out.blk.c 2 _ rfl; have zX2 := HX3.out.blk.f 2 _ rfl
  have cX3 := HX3.out.blk.c 3 _ rfl; have zX3 := HX3.out.blk.f 3 _ rfl
  have cX4 := HX3.out.blk.c 4 _ rfl; have zX4 := HX3.out.blk.f 4 _ rfl
  have hltX := HX3.out.blk.lt
  go_wp2_with (fail)
  have hd9 := (HD3.out.puts HX3.out 0 [.int .i64 v.k, .int .i64 v.n, .string (tx v.s), .int .i64 v.x, .int .i64 v.y])
  have hm9 := (Mv.puts (B := w.heap.size) HM3.out (by omega) 0 [.int .i64 v.k, .int .i64 v.n, .string (tx v.s), .int .i64 v.x, .int .i64 v.y])
  have hxX := (Box.puts (HX3.out) [.int .i64 v.k, .int .i64 v.n, .string (tx v.s), .int .i64 v.x, .int .i64 v.y] rfl)
  clear cX0 zX0 cX1 zX1 cX2 zX2 cX3 zX3 cX4 zX4 HD3 HM3 HX3 
  change bodyPost _ _ _ _ _ (((((w3.setCell ⟨w.heap.size, 0, none⟩ (.int .i64 v.k)).setCell ⟨w.heap.size, 1, none⟩ (.int .i64 v.n)).setCell ⟨w.heap.size, 2, none⟩ (.string (tx v.s))).setCell ⟨w.heap.size, 3, none⟩ (.int .i64 v.x)).setCell ⟨w.heap.size, 4, none⟩ (.int .i64 v.y))
  change Doer _ _ _ _ _ _ _ _ _ ((((((w3.setCell ⟨w.heap.size, 0, none⟩ (.int .i64 v.k)).setCell ⟨w.heap.size, 1, none⟩ (.int .i64 v.n)).setCell ⟨w.heap.size, 2, none⟩ (.string (tx v.s))).setCell ⟨w.heap.size, 3, none⟩ (.int .i64 v.x)).setCell ⟨w.heap.size, 4, none⟩ (.int .i64 v.y))) at hd9
  change Mv _ _ _ _ ((((((w3.setCell ⟨w.heap.size, 0, none⟩ (.int .i64 v.k)).setCell ⟨w.heap.size, 1, none⟩ (.int .i64 v.n)).setCell ⟨w.heap.size, 2, none⟩ (.string (tx v.s))).setCell ⟨w.heap.size, 3, none⟩ (.int .i64 v.x)).setCell ⟨w.heap.size, 4, none⟩ (.int .i64 v.y))) at hm9
  change Box _ _ _ _ _ _ ((((((w3.setCell ⟨w.heap.size, 0, none⟩ (.int .i64 v.k)).setCell ⟨w.heap.size, 1, none⟩ (.int .i64 v.n)).setCell ⟨w.heap.size, 2, none⟩ (.string (tx v.s))).setCell ⟨w.heap.size, 3, none⟩ (.int .i64 v.x)).setCell ⟨w.heap.size, 4, none⟩ (.int .i64 v.y))) at hxX
  generalize ((((((w3.setCell ⟨w.heap.size, 0, none⟩ (.int .i64 v.k)).setCell ⟨w.heap.size, 1, none⟩ (.int .i64 v.n)).setCell ⟨w.heap.size, 2, none⟩ (.string (tx v.s))).setCell ⟨w.heap.size, 3, none⟩ (.int .i64 v.x)).setCell ⟨w.heap.size, 4, none⟩ (.int .i64 v.y))) = w9 at *
  have cX0 := hxX.blk.c 0 _ rfl
  have cX1 := hxX.blk.c 1 _ rfl
  have cX2 := hxX.blk.c 2 _ rfl
  have cX3 := hxX.blk.c 3 _ rfl
  have cX4 := hxX.blk.c 4 _ rfl
  refine bodyPost_ret (v := .tuple #[.agg #[.int .i64 v.k, .int .i64 v.n, .string (tx v.s), .int .i64 v.x, .int .i64 v.y], .int .i64 x]) (by simp [results, Tryz.results39, go_sem, cX0, cX1, cX2, cX3, cX4]) rfl ⟨v, x, S1, n1, ov1, rfl, by rw [HBD.out]; exact HA.out, hd9, hm9⟩
set_option maxRecDepth 100000 in
set_option maxHeartbeats 2000000 in
theorem deed_mod {d : Nat} (HD : DoC (ev d) d) : DeedC d 6 40 := by
  intro w0 A c E b l S n ov w k r hcx hd hg hkl ho hrn hx hd24
  have HBD : Hid (body (ev d) (nd l k) (l.drop (k + 1)) S n = bnd (bnd (prt (ev d) [-1, -1] (l.drop (k + 1))) alk) (af 6) S n) := by show _ = _; exact (congrFun (congrFun (body_prt ho (by decide) (by decide) (by decide) (by decide) (by decide) (by decide)) S) n).trans (congrFun (congrFun (alk_bnd _ (fun l h => (af_rk (by decide) l).trans (rk_unlike h))) S) n)
  rw [show af 6 = fun l => lift (rk 6 (at0 l) (at1 l)) from funext fun l => af_rk (by decide) l] at HBD
  have HP := Lib.hid (reckon_any rk_mod HD hcx (hd.old (box1 w vbox)) hg hkl hx (by decide) hd24)
  have hb0 : Box w0 b E ov w.heap.size [.int .i64 0, .int .i64 0, .string ⟨#[]⟩, .int .i64 0, .int .i64 0] (w.alloc vbox) := Box.made hd (by omega) 26 [.int .i64 0, .int .i64 0, .string ⟨#[]⟩, .int .i64 0, .int .i64 0]
  have hm0 : Mv b ov w ov (w.alloc vbox) := Mv.of (box1 w vbox)
  have HB0 := Lib.hid hb0; have HM0 := Lib.hid hm0
  clear hcx hd hg hx ho hrn hd24 HD hb0 hm0
  go_enter Tryz.func40, Tryz.ntmps40
  go_wp2_with (fail)
  refine (HP.out).mono ?_
  rintro e w3 ⟨v, x, S1, n1, ov1, rfl, ha, hd3, hm3⟩
  have HA := Lib.hid ha; have HD3 := Lib.hid hd3
  have HX3 := Lib.hid (HB0.out.mv hm3); have HM3 := Lib.hid (HM0.out.trans hm3)
  have hlZ := HX3.out.blk.lt
  clear ha hd3 hm3 HP HB0 HM0
  have cX0 := HX3.out.blk.c 0 _ rfl; have zX0 := HX3.out.blk.f 0 _ rfl
  have cX1 := HX3.out.blk.c 1 _ rfl; have zX1 := HX3.out.blk.f 1 _ rfl
  have cX2 := HX3.out.blk.c 2 _ rfl; have zX2 := HX3.out.blk.f 2 _ rfl
  have cX3 := HX3.out.blk.c 3 _ rfl; have zX3 := HX3.out.blk.f 3 _ rfl
  have cX4 := HX3.out.blk.c 4 _ rfl; have zX4 := HX3.out.blk.f 4 _ rfl
  have hltX := HX3.out.blk.lt
  go_wp2_with (fail)
  have hd9 := (HD3.out.puts HX3.out 0 [.int .i64 v.k, .int .i64 v.n, .string (tx v.s), .int .i64 v.x, .int .i64 v.y])
  have hm9 := (Mv.puts (B := w.heap.size) HM3.out (by omega) 0 [.int .i64 v.k, .int .i64 v.n, .string (tx v.s), .int .i64 v.x, .int .i64 v.y])
  have hxX := (Box.puts (HX3.out) [.int .i64 v.k, .int .i64 v.n, .string (tx v.s), .int .i64 v.x, .int .i64 v.y] rfl)
  clear cX0 zX0 cX1 zX1 cX2 zX2 cX3 zX3 cX4 zX4 HD3 HM3 HX3 
  change bodyPost _ _ _ _ _ (((((w3.setCell ⟨w.heap.size, 0, none⟩ (.int .i64 v.k)).setCell ⟨w.heap.size, 1, none⟩ (.int .i64 v.n)).setCell ⟨w.heap.size, 2, none⟩ (.string (tx v.s))).setCell ⟨w.heap.size, 3, none⟩ (.int .i64 v.x)).setCell ⟨w.heap.size, 4, none⟩ (.int .i64 v.y))
  change Doer _ _ _ _ _ _ _ _ _ ((((((w3.setCell ⟨w.heap.size, 0, none⟩ (.int .i64 v.k)).setCell ⟨w.heap.size, 1, none⟩ (.int .i64 v.n)).setCell ⟨w.heap.size, 2, none⟩ (.string (tx v.s))).setCell ⟨w.heap.size, 3, none⟩ (.int .i64 v.x)).setCell ⟨w.heap.size, 4, none⟩ (.int .i64 v.y))) at hd9
  change Mv _ _ _ _ ((((((w3.setCell ⟨w.heap.size, 0, none⟩ (.int .i64 v.k)).setCell ⟨w.heap.size, 1, none⟩ (.int .i64 v.n)).setCell ⟨w.heap.size, 2, none⟩ (.string (tx v.s))).setCell ⟨w.heap.size, 3, none⟩ (.int .i64 v.x)).setCell ⟨w.heap.size, 4, none⟩ (.int .i64 v.y))) at hm9
  change Box _ _ _ _ _ _ ((((((w3.setCell ⟨w.heap.size, 0, none⟩ (.int .i64 v.k)).setCell ⟨w.heap.size, 1, none⟩ (.int .i64 v.n)).setCell ⟨w.heap.size, 2, none⟩ (.string (tx v.s))).setCell ⟨w.heap.size, 3, none⟩ (.int .i64 v.x)).setCell ⟨w.heap.size, 4, none⟩ (.int .i64 v.y))) at hxX
  generalize ((((((w3.setCell ⟨w.heap.size, 0, none⟩ (.int .i64 v.k)).setCell ⟨w.heap.size, 1, none⟩ (.int .i64 v.n)).setCell ⟨w.heap.size, 2, none⟩ (.string (tx v.s))).setCell ⟨w.heap.size, 3, none⟩ (.int .i64 v.x)).setCell ⟨w.heap.size, 4, none⟩ (.int .i64 v.y))) = w9 at *
  have cX0 := hxX.blk.c 0 _ rfl
  have cX1 := hxX.blk.c 1 _ rfl
  have cX2 := hxX.blk.c 2 _ rfl
  have cX3 := hxX.blk.c 3 _ rfl
  have cX4 := hxX.blk.c 4 _ rfl
  refine bodyPost_ret (v := .tuple #[.agg #[.int .i64 v.k, .int .i64 v.n, .string (tx v.s), .int .i64 v.x, .int .i64 v.y], .int .i64 x]) (by simp [results, Tryz.results40, go_sem, cX0, cX1, cX2, cX3, cX4]) rfl ⟨v, x, S1, n1, ov1, rfl, by rw [HBD.out]; exact HA.out, hd9, hm9⟩
set_option maxRecDepth 100000 in
set_option maxHeartbeats 2000000 in
theorem deed_less {d : Nat} (HD : DoC (ev d) d) : DeedC d 8 42 := by
  intro w0 A c E b l S n ov w k r hcx hd hg hkl ho hrn hx hd24
  have HBD : Hid (body (ev d) (nd l k) (l.drop (k + 1)) S n = bnd (bnd (prt (ev d) [-1, -1] (l.drop (k + 1))) alk) (af 8) S n) := by show _ = _; exact (congrFun (congrFun (body_prt ho (by decide) (by decide) (by decide) (by decide) (by decide) (by decide)) S) n).trans (congrFun (congrFun (alk_bnd _ (fun l h => (af_less l).trans (by rw [if_pos h]; rfl))) S) n)
  have HP := Lib.hid (alike_any HD hcx (hd.old (box1 w vbox)) hg hkl hx (by decide) hd24)
  have hb0 : Box w0 b E ov w.heap.size [.int .i64 0, .int .i64 0, .string ⟨#[]⟩, .int .i64 0, .int .i64 0] (w.alloc vbox) := Box.made hd (by omega) 26 [.int .i64 0, .int .i64 0, .string ⟨#[]⟩, .int .i64 0, .int .i64 0]
  have hm0 : Mv b ov w ov (w.alloc vbox) := Mv.of (box1 w vbox)
  have HB0 := Lib.hid hb0; have HM0 := Lib.hid hm0
  clear hcx hd hg hx ho hrn hd24 HD hb0 hm0
  go_enter Tryz.func42, Tryz.ntmps42
  go_wp2_with (fail)
  refine (HP.out).mono ?_
  rintro e w3 ⟨p, q, x, S1, n1, ov1, rfl, ha, r0, r1, hgd, hd3, hm3⟩
  have HA := Lib.hid ha; have HD3 := Lib.hid hd3
  clear r0 r1 hgd
  have HX3 := Lib.hid (HB0.out.mv hm3); have HM3 := Lib.hid (HM0.out.trans hm3)
  have hlZ := HX3.out.blk.lt
  clear ha hd3 hm3 HP HB0 HM0
  have HO := Lib.hid (order_va p q)
  go_wp2_with (fail)
  refine (HO.out _).mono ?_
  rintro e w4 ⟨rfl, hb⟩
  have HD4 := Lib.hid (((HD3.out.old (box1 _ (.cells #[.int .i64 p.k, .int .i64 p.n, .string (tx p.s), .int .i64 p.x, .int .i64 p.y] 26))).old (box1 _ (.cells #[.int .i64 q.k, .int .i64 q.n, .string (tx q.s), .int .i64 q.x, .int .i64 q.y] 26))).old hb)
  have HM4 := Lib.hid (((HM3.out.old (box1 _ (.cells #[.int .i64 p.k, .int .i64 p.n, .string (tx p.s), .int .i64 p.x, .int .i64 p.y] 26))).old (box1 _ (.cells #[.int .i64 q.k, .int .i64 q.n, .string (tx q.s), .int .i64 q.x, .int .i64 q.y] 26))).old hb)
  have HX4 := Lib.hid (((HX3.out.old (box1 _ (.cells #[.int .i64 p.k, .int .i64 p.n, .string (tx p.s), .int .i64 p.x, .int .i64 p.y] 26))).old (box1 _ (.cells #[.int .i64 q.k, .int .i64 q.n, .string (tx q.s), .int .i64 q.x, .int .i64 q.y] 26))).old hb)
  clear hb HD3 HM3 HX3  
  go_wp2_with (fail)
  refine (etruth_any _ _).mono ?_
  rintro e w5 ⟨rfl, hb⟩
  have HD5 := Lib.hid (HD4.out.old hb)
  have HM5 := Lib.hid (HM4.out.old hb)
  have HX5 := Lib.hid (HX4.out.old hb)
  clear hb HD4 HM4 HX4  
  have cX0 := HX5.out.blk.c 0 _ rfl; have zX0 := HX5.out.blk.f 0 _ rfl
  have cX1 := HX5.out.blk.c 1 _ rfl; have zX1 := HX5.out.blk.f 1 _ rfl
  have cX2 := HX5.out.blk.c 2 _ rfl; have zX2 := HX5.out.blk.f 2 _ rfl
  have cX3 := HX5.out.blk.c 3 _ rfl; have zX3 := HX5.out.blk.f 3 _ rfl
  have cX4 := HX5.out.blk.c 4 _ rfl; have zX4 := HX5.out.blk.f 4 _ rfl
  have hltX := HX5.out.blk.lt
  go_wp2_with (fail)
  have hd9 := (HD5.out.puts HX5.out 0 [.int .i64 0, .int .i64 (tri (decide (ord p q < 0))), .string ⟨#[]⟩, .int .i64 0, .int .i64 0])
  have hm9 := (Mv.puts (B := w.heap.size) HM5.out (by omega) 0 [.int .i64 0, .int .i64 (tri (decide (ord p q < 0))), .string ⟨#[]⟩, .int .i64 0, .int .i64 0])
  have hxX := (Box.puts (HX5.out) [.int .i64 0, .int .i64 (tri (decide (ord p q < 0))), .string ⟨#[]⟩, .int .i64 0, .int .i64 0] rfl)
  clear cX0 zX0 cX1 zX1 cX2 zX2 cX3 zX3 cX4 zX4 HD5 HM5 HX5 
  change bodyPost _ _ _ _ _ (((((w5.setCell ⟨w.heap.size, 0, none⟩ (.int .i64 0)).setCell ⟨w.heap.size, 1, none⟩ (.int .i64 (tri (decide (ord p q < 0))))).setCell ⟨w.heap.size, 2, none⟩ (.string ⟨#[]⟩)).setCell ⟨w.heap.size, 3, none⟩ (.int .i64 0)).setCell ⟨w.heap.size, 4, none⟩ (.int .i64 0))
  change Doer _ _ _ _ _ _ _ _ _ ((((((w5.setCell ⟨w.heap.size, 0, none⟩ (.int .i64 0)).setCell ⟨w.heap.size, 1, none⟩ (.int .i64 (tri (decide (ord p q < 0))))).setCell ⟨w.heap.size, 2, none⟩ (.string ⟨#[]⟩)).setCell ⟨w.heap.size, 3, none⟩ (.int .i64 0)).setCell ⟨w.heap.size, 4, none⟩ (.int .i64 0))) at hd9
  change Mv _ _ _ _ ((((((w5.setCell ⟨w.heap.size, 0, none⟩ (.int .i64 0)).setCell ⟨w.heap.size, 1, none⟩ (.int .i64 (tri (decide (ord p q < 0))))).setCell ⟨w.heap.size, 2, none⟩ (.string ⟨#[]⟩)).setCell ⟨w.heap.size, 3, none⟩ (.int .i64 0)).setCell ⟨w.heap.size, 4, none⟩ (.int .i64 0))) at hm9
  change Box _ _ _ _ _ _ ((((((w5.setCell ⟨w.heap.size, 0, none⟩ (.int .i64 0)).setCell ⟨w.heap.size, 1, none⟩ (.int .i64 (tri (decide (ord p q < 0))))).setCell ⟨w.heap.size, 2, none⟩ (.string ⟨#[]⟩)).setCell ⟨w.heap.size, 3, none⟩ (.int .i64 0)).setCell ⟨w.heap.size, 4, none⟩ (.int .i64 0))) at hxX
  generalize ((((((w5.setCell ⟨w.heap.size, 0, none⟩ (.int .i64 0)).setCell ⟨w.heap.size, 1, none⟩ (.int .i64 (tri (decide (ord p q < 0))))).setCell ⟨w.heap.size, 2, none⟩ (.string ⟨#[]⟩)).setCell ⟨w.heap.size, 3, none⟩ (.int .i64 0)).setCell ⟨w.heap.size, 4, none⟩ (.int .i64 0))) = w9 at *
  have cX0 := hxX.blk.c 0 _ rfl
  have cX1 := hxX.blk.c 1 _ rfl
  have cX2 := hxX.blk.c 2 _ rfl
  have cX3 := hxX.blk.c 3 _ rfl
  have cX4 := hxX.blk.c 4 _ rfl
  refine bodyPost_ret (v := .tuple #[.agg #[.int .i64 0, .int .i64 (tri (decide (ord p q < 0))), .string ⟨#[]⟩, .int .i64 0, .int .i64 0], .int .i64 x]) (by simp [results, Tryz.results42, go_sem, cX0, cX1, cX2, cX3, cX4]) rfl ⟨nv (tri (decide (ord p q < 0))), x, S1, n1, ov1, rfl, by rw [HBD.out]; exact HA.out.bnd fun h0 a ha _ => by obtain ⟨rfl, rfl, hk⟩ := ha; exact ⟨_, by rw [af_less, if_neg (fun e => e hk)]; rfl, (tr_tri _).symm⟩, hd9, hm9⟩
set_option maxRecDepth 100000 in
set_option maxHeartbeats 2000000 in
theorem deed_max {d : Nat} (HD : DoC (ev d) d) : DeedC d 12 46 := by
  intro w0 A c E b l S n ov w k r hcx hd hg hkl ho hrn hx hd24
  have HBD : Hid (body (ev d) (nd l k) (l.drop (k + 1)) S n = bnd (bnd (prt (ev d) [-1, -1] (l.drop (k + 1))) alk) (af 12) S n) := by show _ = _; exact (congrFun (congrFun (body_prt ho (by decide) (by decide) (by decide) (by decide) (by decide) (by decide)) S) n).trans (congrFun (congrFun (alk_bnd _ (fun l h => (af_max l).trans (by rw [if_pos h]; rfl))) S) n)
  have HP := Lib.hid (alike_any HD hcx (hd.old (box1 w vbox)) hg hkl hx (by decide) hd24)
  have hb0 : Box w0 b E ov w.heap.size [.int .i64 0, .int .i64 0, .string ⟨#[]⟩, .int .i64 0, .int .i64 0] (w.alloc vbox) := Box.made hd (by omega) 26 [.int .i64 0, .int .i64 0, .string ⟨#[]⟩, .int .i64 0, .int .i64 0]
  have hm0 : Mv b ov w ov (w.alloc vbox) := Mv.of (box1 w vbox)
  have HB0 := Lib.hid hb0; have HM0 := Lib.hid hm0
  clear hcx hd hg hx ho hrn hd24 HD hb0 hm0
  go_enter Tryz.func46, Tryz.ntmps46
  go_wp2_with (fail)
  refine (HP.out).mono ?_
  rintro e w3 ⟨p, q, x, S1, n1, ov1, rfl, ha, r0, r1, hgd, hd3, hm3⟩
  have HA := Lib.hid ha; have HD3 := Lib.hid hd3
  clear r0 r1 hgd
  have HX3 := Lib.hid (HB0.out.mv hm3); have HM3 := Lib.hid (HM0.out.trans hm3)
  have hlZ := HX3.out.blk.lt
  clear ha hd3 hm3 HP HB0 HM0
  have HO := Lib.hid (order_va p q)
  obtain ⟨o, ho⟩ : ∃ o, ord p q = o := ⟨_, rfl⟩
  have HOO := Lib.hid ho
  rw [ho] at HO
  clear ho
  go_wp2_with (fail)
  refine (HO.out _).mono ?_
  rintro e w4 ⟨rfl, hb⟩
  have HD4 := Lib.hid (((HD3.out.old (box1 _ (.cells #[.int .i64 p.k, .int .i64 p.n, .string (tx p.s), .int .i64 p.x, .int .i64 p.y] 26))).old (box1 _ (.cells #[.int .i64 q.k, .int .i64 q.n, .string (tx q.s), .int .i64 q.x, .int .i64 q.y] 26))).old hb)
  have HM4 := Lib.hid (((HM3.out.old (box1 _ (.cells #[.int .i64 p.k, .int .i64 p.n, .string (tx p.s), .int .i64 p.x, .int .i64 p.y] 26))).old (box1 _ (.cells #[.int .i64 q.k, .int .i64 q.n, .string (tx q.s), .int .i64 q.x, .int .i64 q.y] 26))).old hb)
  have HX4 := Lib.hid (((HX3.out.old (box1 _ (.cells #[.int .i64 p.k, .int .i64 p.n, .string (tx p.s), .int .i64 p.x, .int .i64 p.y] 26))).old (box1 _ (.cells #[.int .i64 q.k, .int .i64 q.n, .string (tx q.s), .int .i64 q.x, .int .i64 q.y] 26))).old hb)
  have HA4 : Hid (Box w0 b E ov1 (w3.heap.size) [.int .i64 p.k, .int .i64 p.n, .string (tx p.s), .int .i64 p.x, .int .i64 p.y] w4) := by
    have h := Box.made HD3.out (by omega) 26 [.int .i64 p.k, .int .i64 p.n, .string (tx p.s), .int .i64 p.x, .int .i64 p.y]
    exact ((h.old (box1 _ (.cells #[.int .i64 q.k, .int .i64 q.n, .string (tx q.s), .int .i64 q.x, .int .i64 q.y] 26)))).old hb
  have HB4 : Hid (Box w0 b E ov1 (w3.heap.size + 1) [.int .i64 q.k, .int .i64 q.n, .string (tx q.s), .int .i64 q.x, .int .i64 q.y] w4) := by
    have h := Box.made (HD3.out.old (box1 _ (.cells #[.int .i64 p.k, .int .i64 p.n, .string (tx p.s), .int .i64 p.x, .int .i64 p.y] 26))) (by omega) 26 [.int .i64 q.k, .int .i64 q.n, .string (tx q.s), .int .i64 q.x, .int .i64 q.y]
    simp only [World.size_alloc] at h
    exact (h).old hb
  clear hb HD3 HM3 HX3  
  by_cases hgt : 0 < o
  · have HG := Lib.hid hgt
    have qA0 := HA4.out.blk.c 0 _ rfl
    have qA1 := HA4.out.blk.c 1 _ rfl
    have qA2 := HA4.out.blk.c 2 _ rfl
    have qA3 := HA4.out.blk.c 3 _ rfl
    have qA4 := HA4.out.blk.c 4 _ rfl
    have cX0 := HX4.out.blk.c 0 _ rfl; have zX0 := HX4.out.blk.f 0 _ rfl
    have cX1 := HX4.out.blk.c 1 _ rfl; have zX1 := HX4.out.blk.f 1 _ rfl
    have cX2 := HX4.out.blk.c 2 _ rfl; have zX2 := HX4.out.blk.f 2 _ rfl
    have cX3 := HX4.out.blk.c 3 _ rfl; have zX3 := HX4.out.blk.f 3 _ rfl
    have cX4 := HX4.out.blk.c 4 _ rfl; have zX4 := HX4.out.blk.f 4 _ rfl
    have hltX := HX4.out.blk.lt
    go_wp2_with (fail)
    have hd9 := (HD4.out.puts HX4.out 0 [.int .i64 p.k, .int .i64 p.n, .string (tx p.s), .int .i64 p.x, .int .i64 p.y])
    have hm9 := (Mv.puts (B := w.heap.size) HM4.out (by omega) 0 [.int .i64 p.k, .int .i64 p.n, .string (tx p.s), .int .i64 p.x, .int .i64 p.y])
    have hxX := (Box.puts (HX4.out) [.int .i64 p.k, .int .i64 p.n, .string (tx p.s), .int .i64 p.x, .int .i64 p.y] rfl)
    clear qA0 qA1 qA2 qA3 qA4 cX0 zX0 cX1 zX1 cX2 zX2 cX3 zX3 cX4 zX4 HD4 HM4 HX4 HA4 HB4 
    change bodyPost _ _ _ _ _ (((((w4.setCell ⟨w.heap.size, 0, none⟩ (.int .i64 p.k)).setCell ⟨w.heap.size, 1, none⟩ (.int .i64 p.n)).setCell ⟨w.heap.size, 2, none⟩ (.string (tx p.s))).setCell ⟨w.heap.size, 3, none⟩ (.int .i64 p.x)).setCell ⟨w.heap.size, 4, none⟩ (.int .i64 p.y))
    change Doer _ _ _ _ _ _ _ _ _ ((((((w4.setCell ⟨w.heap.size, 0, none⟩ (.int .i64 p.k)).setCell ⟨w.heap.size, 1, none⟩ (.int .i64 p.n)).setCell ⟨w.heap.size, 2, none⟩ (.string (tx p.s))).setCell ⟨w.heap.size, 3, none⟩ (.int .i64 p.x)).setCell ⟨w.heap.size, 4, none⟩ (.int .i64 p.y))) at hd9
    change Mv _ _ _ _ ((((((w4.setCell ⟨w.heap.size, 0, none⟩ (.int .i64 p.k)).setCell ⟨w.heap.size, 1, none⟩ (.int .i64 p.n)).setCell ⟨w.heap.size, 2, none⟩ (.string (tx p.s))).setCell ⟨w.heap.size, 3, none⟩ (.int .i64 p.x)).setCell ⟨w.heap.size, 4, none⟩ (.int .i64 p.y))) at hm9
    change Box _ _ _ _ _ _ ((((((w4.setCell ⟨w.heap.size, 0, none⟩ (.int .i64 p.k)).setCell ⟨w.heap.size, 1, none⟩ (.int .i64 p.n)).setCell ⟨w.heap.size, 2, none⟩ (.string (tx p.s))).setCell ⟨w.heap.size, 3, none⟩ (.int .i64 p.x)).setCell ⟨w.heap.size, 4, none⟩ (.int .i64 p.y))) at hxX
    generalize ((((((w4.setCell ⟨w.heap.size, 0, none⟩ (.int .i64 p.k)).setCell ⟨w.heap.size, 1, none⟩ (.int .i64 p.n)).setCell ⟨w.heap.size, 2, none⟩ (.string (tx p.s))).setCell ⟨w.heap.size, 3, none⟩ (.int .i64 p.x)).setCell ⟨w.heap.size, 4, none⟩ (.int .i64 p.y))) = w9 at *
    have cX0 := hxX.blk.c 0 _ rfl
    have cX1 := hxX.blk.c 1 _ rfl
    have cX2 := hxX.blk.c 2 _ rfl
    have cX3 := hxX.blk.c 3 _ rfl
    have cX4 := hxX.blk.c 4 _ rfl
    refine bodyPost_ret (v := .tuple #[.agg #[.int .i64 p.k, .int .i64 p.n, .string (tx p.s), .int .i64 p.x, .int .i64 p.y], .int .i64 x]) (by simp [results, Tryz.results46, go_sem, cX0, cX1, cX2, cX3, cX4]) rfl ⟨p, x, S1, n1, ov1, rfl, by rw [HBD.out]; exact HA.out.bnd fun h0 a ha _ => by obtain ⟨rfl, rfl, hk⟩ := ha; exact ⟨_, by rw [af_max, if_neg (fun e => e hk), HOO.out, if_pos HG.out]; rfl, rfl⟩, hd9, hm9⟩
  · have HG := Lib.hid hgt
    have qB0 := HB4.out.blk.c 0 _ rfl
    have qB1 := HB4.out.blk.c 1 _ rfl
    have qB2 := HB4.out.blk.c 2 _ rfl
    have qB3 := HB4.out.blk.c 3 _ rfl
    have qB4 := HB4.out.blk.c 4 _ rfl
    have cX0 := HX4.out.blk.c 0 _ rfl; have zX0 := HX4.out.blk.f 0 _ rfl
    have cX1 := HX4.out.blk.c 1 _ rfl; have zX1 := HX4.out.blk.f 1 _ rfl
    have cX2 := HX4.out.blk.c 2 _ rfl; have zX2 := HX4.out.blk.f 2 _ rfl
    have cX3 := HX4.out.blk.c 3 _ rfl; have zX3 := HX4.out.blk.f 3 _ rfl
    have cX4 := HX4.out.blk.c 4 _ rfl; have zX4 := HX4.out.blk.f 4 _ rfl
    have hltX := HX4.out.blk.lt
    go_wp2_with (fail)
    have hd9 := (HD4.out.puts HX4.out 0 [.int .i64 q.k, .int .i64 q.n, .string (tx q.s), .int .i64 q.x, .int .i64 q.y])
    have hm9 := (Mv.puts (B := w.heap.size) HM4.out (by omega) 0 [.int .i64 q.k, .int .i64 q.n, .string (tx q.s), .int .i64 q.x, .int .i64 q.y])
    have hxX := (Box.puts (HX4.out) [.int .i64 q.k, .int .i64 q.n, .string (tx q.s), .int .i64 q.x, .int .i64 q.y] rfl)
    clear qB0 qB1 qB2 qB3 qB4 cX0 zX0 cX1 zX1 cX2 zX2 cX3 zX3 cX4 zX4 HD4 HM4 HX4 HA4 HB4 
    change bodyPost _ _ _ _ _ (((((w4.setCell ⟨w.heap.size, 0, none⟩ (.int .i64 q.k)).setCell ⟨w.heap.size, 1, none⟩ (.int .i64 q.n)).setCell ⟨w.heap.size, 2, none⟩ (.string (tx q.s))).setCell ⟨w.heap.size, 3, none⟩ (.int .i64 q.x)).setCell ⟨w.heap.size, 4, none⟩ (.int .i64 q.y))
    change Doer _ _ _ _ _ _ _ _ _ ((((((w4.setCell ⟨w.heap.size, 0, none⟩ (.int .i64 q.k)).setCell ⟨w.heap.size, 1, none⟩ (.int .i64 q.n)).setCell ⟨w.heap.size, 2, none⟩ (.string (tx q.s))).setCell ⟨w.heap.size, 3, none⟩ (.int .i64 q.x)).setCell ⟨w.heap.size, 4, none⟩ (.int .i64 q.y))) at hd9
    change Mv _ _ _ _ ((((((w4.setCell ⟨w.heap.size, 0, none⟩ (.int .i64 q.k)).setCell ⟨w.heap.size, 1, none⟩ (.int .i64 q.n)).setCell ⟨w.heap.size, 2, none⟩ (.string (tx q.s))).setCell ⟨w.heap.size, 3, none⟩ (.int .i64 q.x)).setCell ⟨w.heap.size, 4, none⟩ (.int .i64 q.y))) at hm9
    change Box _ _ _ _ _ _ ((((((w4.setCell ⟨w.heap.size, 0, none⟩ (.int .i64 q.k)).setCell ⟨w.heap.size, 1, none⟩ (.int .i64 q.n)).setCell ⟨w.heap.size, 2, none⟩ (.string (tx q.s))).setCell ⟨w.heap.size, 3, none⟩ (.int .i64 q.x)).setCell ⟨w.heap.size, 4, none⟩ (.int .i64 q.y))) at hxX
    generalize ((((((w4.setCell ⟨w.heap.size, 0, none⟩ (.int .i64 q.k)).setCell ⟨w.heap.size, 1, none⟩ (.int .i64 q.n)).setCell ⟨w.heap.size, 2, none⟩ (.string (tx q.s))).setCell ⟨w.heap.size, 3, none⟩ (.int .i64 q.x)).setCell ⟨w.heap.size, 4, none⟩ (.int .i64 q.y))) = w9 at *
    have cX0 := hxX.blk.c 0 _ rfl
    have cX1 := hxX.blk.c 1 _ rfl
    have cX2 := hxX.blk.c 2 _ rfl
    have cX3 := hxX.blk.c 3 _ rfl
    have cX4 := hxX.blk.c 4 _ rfl
    refine bodyPost_ret (v := .tuple #[.agg #[.int .i64 q.k, .int .i64 q.n, .string (tx q.s), .int .i64 q.x, .int .i64 q.y], .int .i64 x]) (by simp [results, Tryz.results46, go_sem, cX0, cX1, cX2, cX3, cX4]) rfl ⟨q, x, S1, n1, ov1, rfl, by rw [HBD.out]; exact HA.out.bnd fun h0 a ha _ => by obtain ⟨rfl, rfl, hk⟩ := ha; exact ⟨_, by rw [af_max, if_neg (fun e => e hk), HOO.out, if_neg (fun e => by have := HG.out; omega)]; rfl, rfl⟩, hd9, hm9⟩
set_option maxRecDepth 100000 in
set_option maxHeartbeats 2000000 in
theorem deed_min {d : Nat} (HD : DoC (ev d) d) : DeedC d 13 47 := by
  intro w0 A c E b l S n ov w k r hcx hd hg hkl ho hrn hx hd24
  have HBD : Hid (body (ev d) (nd l k) (l.drop (k + 1)) S n = bnd (bnd (prt (ev d) [-1, -1] (l.drop (k + 1))) alk) (af 13) S n) := by show _ = _; exact (congrFun (congrFun (body_prt ho (by decide) (by decide) (by decide) (by decide) (by decide) (by decide)) S) n).trans (congrFun (congrFun (alk_bnd _ (fun l h => (af_min l).trans (by rw [if_pos h]; rfl))) S) n)
  have HP := Lib.hid (alike_any HD hcx (hd.old (box1 w vbox)) hg hkl hx (by decide) hd24)
  have hb0 : Box w0 b E ov w.heap.size [.int .i64 0, .int .i64 0, .string ⟨#[]⟩, .int .i64 0, .int .i64 0] (w.alloc vbox) := Box.made hd (by omega) 26 [.int .i64 0, .int .i64 0, .string ⟨#[]⟩, .int .i64 0, .int .i64 0]
  have hm0 : Mv b ov w ov (w.alloc vbox) := Mv.of (box1 w vbox)
  have HB0 := Lib.hid hb0; have HM0 := Lib.hid hm0
  clear hcx hd hg hx ho hrn hd24 HD hb0 hm0
  go_enter Tryz.func47, Tryz.ntmps47
  go_wp2_with (fail)
  refine (HP.out).mono ?_
  rintro e w3 ⟨p, q, x, S1, n1, ov1, rfl, ha, r0, r1, hgd, hd3, hm3⟩
  have HA := Lib.hid ha; have HD3 := Lib.hid hd3
  clear r0 r1 hgd
  have HX3 := Lib.hid (HB0.out.mv hm3); have HM3 := Lib.hid (HM0.out.trans hm3)
  have hlZ := HX3.out.blk.lt
  clear ha hd3 hm3 HP HB0 HM0
  have HO := Lib.hid (order_va p q)
  obtain ⟨o, ho⟩ : ∃ o, ord p q = o := ⟨_, rfl⟩
  have HOO := Lib.hid ho
  rw [ho] at HO
  clear ho
  go_wp2_with (fail)
  refine (HO.out _).mono ?_
  rintro e w4 ⟨rfl, hb⟩
  have HD4 := Lib.hid (((HD3.out.old (box1 _ (.cells #[.int .i64 p.k, .int .i64 p.n, .string (tx p.s), .int .i64 p.x, .int .i64 p.y] 26))).old (box1 _ (.cells #[.int .i64 q.k, .int .i64 q.n, .string (tx q.s), .int .i64 q.x, .int .i64 q.y] 26))).old hb)
  have HM4 := Lib.hid (((HM3.out.old (box1 _ (.cells #[.int .i64 p.k, .int .i64 p.n, .string (tx p.s), .int .i64 p.x, .int .i64 p.y] 26))).old (box1 _ (.cells #[.int .i64 q.k, .int .i64 q.n, .string (tx q.s), .int .i64 q.x, .int .i64 q.y] 26))).old hb)
  have HX4 := Lib.hid (((HX3.out.old (box1 _ (.cells #[.int .i64 p.k, .int .i64 p.n, .string (tx p.s), .int .i64 p.x, .int .i64 p.y] 26))).old (box1 _ (.cells #[.int .i64 q.k, .int .i64 q.n, .string (tx q.s), .int .i64 q.x, .int .i64 q.y] 26))).old hb)
  have HA4 : Hid (Box w0 b E ov1 (w3.heap.size) [.int .i64 p.k, .int .i64 p.n, .string (tx p.s), .int .i64 p.x, .int .i64 p.y] w4) := by
    have h := Box.made HD3.out (by omega) 26 [.int .i64 p.k, .int .i64 p.n, .string (tx p.s), .int .i64 p.x, .int .i64 p.y]
    exact ((h.old (box1 _ (.cells #[.int .i64 q.k, .int .i64 q.n, .string (tx q.s), .int .i64 q.x, .int .i64 q.y] 26)))).old hb
  have HB4 : Hid (Box w0 b E ov1 (w3.heap.size + 1) [.int .i64 q.k, .int .i64 q.n, .string (tx q.s), .int .i64 q.x, .int .i64 q.y] w4) := by
    have h := Box.made (HD3.out.old (box1 _ (.cells #[.int .i64 p.k, .int .i64 p.n, .string (tx p.s), .int .i64 p.x, .int .i64 p.y] 26))) (by omega) 26 [.int .i64 q.k, .int .i64 q.n, .string (tx q.s), .int .i64 q.x, .int .i64 q.y]
    simp only [World.size_alloc] at h
    exact (h).old hb
  clear hb HD3 HM3 HX3  
  by_cases hgt : 0 < o
  · have HG := Lib.hid hgt
    have qB0 := HB4.out.blk.c 0 _ rfl
    have qB1 := HB4.out.blk.c 1 _ rfl
    have qB2 := HB4.out.blk.c 2 _ rfl
    have qB3 := HB4.out.blk.c 3 _ rfl
    have qB4 := HB4.out.blk.c 4 _ rfl
    have cX0 := HX4.out.blk.c 0 _ rfl; have zX0 := HX4.out.blk.f 0 _ rfl
    have cX1 := HX4.out.blk.c 1 _ rfl; have zX1 := HX4.out.blk.f 1 _ rfl
    have cX2 := HX4.out.blk.c 2 _ rfl; have zX2 := HX4.out.blk.f 2 _ rfl
    have cX3 := HX4.out.blk.c 3 _ rfl; have zX3 := HX4.out.blk.f 3 _ rfl
    have cX4 := HX4.out.blk.c 4 _ rfl; have zX4 := HX4.out.blk.f 4 _ rfl
    have hltX := HX4.out.blk.lt
    go_wp2_with (fail)
    have hd9 := (HD4.out.puts HX4.out 0 [.int .i64 q.k, .int .i64 q.n, .string (tx q.s), .int .i64 q.x, .int .i64 q.y])
    have hm9 := (Mv.puts (B := w.heap.size) HM4.out (by omega) 0 [.int .i64 q.k, .int .i64 q.n, .string (tx q.s), .int .i64 q.x, .int .i64 q.y])
    have hxX := (Box.puts (HX4.out) [.int .i64 q.k, .int .i64 q.n, .string (tx q.s), .int .i64 q.x, .int .i64 q.y] rfl)
    clear qB0 qB1 qB2 qB3 qB4 cX0 zX0 cX1 zX1 cX2 zX2 cX3 zX3 cX4 zX4 HD4 HM4 HX4 HA4 HB4 
    change bodyPost _ _ _ _ _ (((((w4.setCell ⟨w.heap.size, 0, none⟩ (.int .i64 q.k)).setCell ⟨w.heap.size, 1, none⟩ (.int .i64 q.n)).setCell ⟨w.heap.size, 2, none⟩ (.string (tx q.s))).setCell ⟨w.heap.size, 3, none⟩ (.int .i64 q.x)).setCell ⟨w.heap.size, 4, none⟩ (.int .i64 q.y))
    change Doer _ _ _ _ _ _ _ _ _ ((((((w4.setCell ⟨w.heap.size, 0, none⟩ (.int .i64 q.k)).setCell ⟨w.heap.size, 1, none⟩ (.int .i64 q.n)).setCell ⟨w.heap.size, 2, none⟩ (.string (tx q.s))).setCell ⟨w.heap.size, 3, none⟩ (.int .i64 q.x)).setCell ⟨w.heap.size, 4, none⟩ (.int .i64 q.y))) at hd9
    change Mv _ _ _ _ ((((((w4.setCell ⟨w.heap.size, 0, none⟩ (.int .i64 q.k)).setCell ⟨w.heap.size, 1, none⟩ (.int .i64 q.n)).setCell ⟨w.heap.size, 2, none⟩ (.string (tx q.s))).setCell ⟨w.heap.size, 3, none⟩ (.int .i64 q.x)).setCell ⟨w.heap.size, 4, none⟩ (.int .i64 q.y))) at hm9
    change Box _ _ _ _ _ _ ((((((w4.setCell ⟨w.heap.size, 0, none⟩ (.int .i64 q.k)).setCell ⟨w.heap.size, 1, none⟩ (.int .i64 q.n)).setCell ⟨w.heap.size, 2, none⟩ (.string (tx q.s))).setCell ⟨w.heap.size, 3, none⟩ (.int .i64 q.x)).setCell ⟨w.heap.size, 4, none⟩ (.int .i64 q.y))) at hxX
    generalize ((((((w4.setCell ⟨w.heap.size, 0, none⟩ (.int .i64 q.k)).setCell ⟨w.heap.size, 1, none⟩ (.int .i64 q.n)).setCell ⟨w.heap.size, 2, none⟩ (.string (tx q.s))).setCell ⟨w.heap.size, 3, none⟩ (.int .i64 q.x)).setCell ⟨w.heap.size, 4, none⟩ (.int .i64 q.y))) = w9 at *
    have cX0 := hxX.blk.c 0 _ rfl
    have cX1 := hxX.blk.c 1 _ rfl
    have cX2 := hxX.blk.c 2 _ rfl
    have cX3 := hxX.blk.c 3 _ rfl
    have cX4 := hxX.blk.c 4 _ rfl
    refine bodyPost_ret (v := .tuple #[.agg #[.int .i64 q.k, .int .i64 q.n, .string (tx q.s), .int .i64 q.x, .int .i64 q.y], .int .i64 x]) (by simp [results, Tryz.results47, go_sem, cX0, cX1, cX2, cX3, cX4]) rfl ⟨q, x, S1, n1, ov1, rfl, by rw [HBD.out]; exact HA.out.bnd fun h0 a ha _ => by obtain ⟨rfl, rfl, hk⟩ := ha; exact ⟨_, by rw [af_min, if_neg (fun e => e hk), HOO.out, if_pos HG.out]; rfl, rfl⟩, hd9, hm9⟩
  · have HG := Lib.hid hgt
    have qA0 := HA4.out.blk.c 0 _ rfl
    have qA1 := HA4.out.blk.c 1 _ rfl
    have qA2 := HA4.out.blk.c 2 _ rfl
    have qA3 := HA4.out.blk.c 3 _ rfl
    have qA4 := HA4.out.blk.c 4 _ rfl
    have cX0 := HX4.out.blk.c 0 _ rfl; have zX0 := HX4.out.blk.f 0 _ rfl
    have cX1 := HX4.out.blk.c 1 _ rfl; have zX1 := HX4.out.blk.f 1 _ rfl
    have cX2 := HX4.out.blk.c 2 _ rfl; have zX2 := HX4.out.blk.f 2 _ rfl
    have cX3 := HX4.out.blk.c 3 _ rfl; have zX3 := HX4.out.blk.f 3 _ rfl
    have cX4 := HX4.out.blk.c 4 _ rfl; have zX4 := HX4.out.blk.f 4 _ rfl
    have hltX := HX4.out.blk.lt
    go_wp2_with (fail)
    have hd9 := (HD4.out.puts HX4.out 0 [.int .i64 p.k, .int .i64 p.n, .string (tx p.s), .int .i64 p.x, .int .i64 p.y])
    have hm9 := (Mv.puts (B := w.heap.size) HM4.out (by omega) 0 [.int .i64 p.k, .int .i64 p.n, .string (tx p.s), .int .i64 p.x, .int .i64 p.y])
    have hxX := (Box.puts (HX4.out) [.int .i64 p.k, .int .i64 p.n, .string (tx p.s), .int .i64 p.x, .int .i64 p.y] rfl)
    clear qA0 qA1 qA2 qA3 qA4 cX0 zX0 cX1 zX1 cX2 zX2 cX3 zX3 cX4 zX4 HD4 HM4 HX4 HA4 HB4 
    change bodyPost _ _ _ _ _ (((((w4.setCell ⟨w.heap.size, 0, none⟩ (.int .i64 p.k)).setCell ⟨w.heap.size, 1, none⟩ (.int .i64 p.n)).setCell ⟨w.heap.size, 2, none⟩ (.string (tx p.s))).setCell ⟨w.heap.size, 3, none⟩ (.int .i64 p.x)).setCell ⟨w.heap.size, 4, none⟩ (.int .i64 p.y))
    change Doer _ _ _ _ _ _ _ _ _ ((((((w4.setCell ⟨w.heap.size, 0, none⟩ (.int .i64 p.k)).setCell ⟨w.heap.size, 1, none⟩ (.int .i64 p.n)).setCell ⟨w.heap.size, 2, none⟩ (.string (tx p.s))).setCell ⟨w.heap.size, 3, none⟩ (.int .i64 p.x)).setCell ⟨w.heap.size, 4, none⟩ (.int .i64 p.y))) at hd9
    change Mv _ _ _ _ ((((((w4.setCell ⟨w.heap.size, 0, none⟩ (.int .i64 p.k)).setCell ⟨w.heap.size, 1, none⟩ (.int .i64 p.n)).setCell ⟨w.heap.size, 2, none⟩ (.string (tx p.s))).setCell ⟨w.heap.size, 3, none⟩ (.int .i64 p.x)).setCell ⟨w.heap.size, 4, none⟩ (.int .i64 p.y))) at hm9
    change Box _ _ _ _ _ _ ((((((w4.setCell ⟨w.heap.size, 0, none⟩ (.int .i64 p.k)).setCell ⟨w.heap.size, 1, none⟩ (.int .i64 p.n)).setCell ⟨w.heap.size, 2, none⟩ (.string (tx p.s))).setCell ⟨w.heap.size, 3, none⟩ (.int .i64 p.x)).setCell ⟨w.heap.size, 4, none⟩ (.int .i64 p.y))) at hxX
    generalize ((((((w4.setCell ⟨w.heap.size, 0, none⟩ (.int .i64 p.k)).setCell ⟨w.heap.size, 1, none⟩ (.int .i64 p.n)).setCell ⟨w.heap.size, 2, none⟩ (.string (tx p.s))).setCell ⟨w.heap.size, 3, none⟩ (.int .i64 p.x)).setCell ⟨w.heap.size, 4, none⟩ (.int .i64 p.y))) = w9 at *
    have cX0 := hxX.blk.c 0 _ rfl
    have cX1 := hxX.blk.c 1 _ rfl
    have cX2 := hxX.blk.c 2 _ rfl
    have cX3 := hxX.blk.c 3 _ rfl
    have cX4 := hxX.blk.c 4 _ rfl
    refine bodyPost_ret (v := .tuple #[.agg #[.int .i64 p.k, .int .i64 p.n, .string (tx p.s), .int .i64 p.x, .int .i64 p.y], .int .i64 x]) (by simp [results, Tryz.results47, go_sem, cX0, cX1, cX2, cX3, cX4]) rfl ⟨p, x, S1, n1, ov1, rfl, by rw [HBD.out]; exact HA.out.bnd fun h0 a ha _ => by obtain ⟨rfl, rfl, hk⟩ := ha; exact ⟨_, by rw [af_min, if_neg (fun e => e hk), HOO.out, if_neg (fun e => by have := HG.out; omega)]; rfl, rfl⟩, hd9, hm9⟩
end Go.Proofs.YtcdjincaedpodaaGreatDoor.Ev
/-
  The first stretch without blanks of a text, and what is behind it (written by gen_evstr.py).
-/
namespace Go.Proofs.YtcdjincaedpodaaGreatDoor.Ev
open Go.ChangeShapes Go.WideShapes Go.ChangeAt Go.RowKit Go.Proofs.YtcdjincaedpodaaGreatDoor.Ov Go.Proofs.YtcdjincaedpodaaGreatDoor.Va Go.Proofs.YtcdjincaedpodaaGreatDoor.Ga Go.Proofs.YtcdjincaedpodaaGreatDoor.Ex

theorem drop_at (s : ByteArray) {k : Nat} (h : k < s.size) : s.data.toList.drop k = s[k] :: s.data.toList.drop (k + 1) := List.drop_eq_getElem_cons (by simpa using h)
theorem drop_take_nil (l : List UInt8) (k : Nat) : (l.take k).drop k = [] := List.drop_of_length_le (by rw [List.length_take]; omega)
theorem ext_mid (s : ByteArray) {k m : Nat} (_h : k ≤ m) (_h2 : m ≤ s.size) : s.extract k m = tx ((s.data.toList.take m).drop k) := tx_ext (by
  rw [Lib.extract_data]; simp [List.drop_take])
theorem isB_yes {c : UInt8} (h : isB c = true) : ((c.toNat : Int) != 32) = false := by
  have : c = 32 := by simpa [isB] using h
  rw [this]; rfl
theorem isB_no {c : UInt8} (h : ¬ isB c = true) : ((c.toNat : Int) != 32) = true := by
  rw [bne_iff_ne]
  intro e
  apply h
  have : c = 32 := UInt8.toNat_inj.1 (by show c.toNat = 32; omega)
  rw [this]; rfl
theorem isB_yes' {c : UInt8} (h : isB c = true) : ((c.toNat : Int) == 32) = true := by
  have : c = 32 := by simpa [isB] using h
  rw [this]; rfl
theorem isB_no' {c : UInt8} (h : ¬ isB c = true) : ((c.toNat : Int) == 32) = false := by
  have := isB_no h
  rw [bne_iff_ne] at this
  simpa using this
set_option maxRecDepth 100000 in
set_option maxHeartbeats 2000000 in
theorem stretch_any (s : ByteArray) (hs : s.size ≤ 281474976710656) (w : World) : Calls Tryz.prog 98 #[.string s] w (Gives (.tuple #[.string (tx (st s.data.toList)), .string (tx (bh s.data.toList))]) w) := by
  go_enter Tryz.func98, Tryz.ntmps98
  go_wp2_with (fail)
  go_loop [4] (fun i => ∃ k : Nat, k ≤ s.size ∧ i = .int .i64 (k : Int) ∧ (s.data.toList.drop k).dropWhile isB = sp s.data.toList) (fun i => s.size - (intOf i).toNat)
  case atStart => exact ⟨0, Nat.zero_le _, rfl, rfl⟩
  case round =>
    obtain ⟨k, hk, rfl, hsp0⟩ := hrel
    by_cases hlt : k < s.size
    · have hdr := drop_at s hlt
      by_cases hc : isB s[k] = true
      · have h32 : ((s[k].toNat : Int) == 32) = true := isB_yes' hc
        have HR : Hid ((s.data.toList.drop (k + 1)).dropWhile isB = sp s.data.toList) := by
          show _ = _
          rw [← hsp0, hdr, List.dropWhile_cons_of_pos hc]
        clear hdr hc hsp0
        go_wp2_with (fail)
        go_round
        case rel => exact ⟨k + 1, by omega, by go_num, HR.out⟩
        case measure => simp [intOf]; omega
      · have h32 : ((s[k].toNat : Int) == 32) = false := isB_no' hc
        have hsp : sp s.data.toList = s.data.toList.drop k := by rw [← hsp0, hdr, List.dropWhile_cons_of_neg hc]
        clear hdr hc hsp0
        have HSP : Hid (sp s.data.toList = s.data.toList.drop k) := hsp
        clear hsp
        go_wp2_with (fail)
        go_loop [5] (fun t => ∃ m : Nat, k ≤ m ∧ m ≤ s.size ∧ t = .int .i64 (m : Int) ∧ st s.data.toList = (s.data.toList.take m).drop k ++ (s.data.toList.drop m).takeWhile (fun c => !isB c) ∧ bh s.data.toList = (s.data.toList.drop m).dropWhile (fun c => !isB c)) (fun t => s.size - (intOf t).toNat)
        case atStart => exact ⟨k, Nat.le_refl _, hk, rfl, by unfold st; rw [HSP.out, drop_take_nil]; rfl, by unfold bh; rw [HSP.out]⟩
        case round =>
          obtain ⟨m, hkm, hm, rfl, hst, hbh⟩ := hrel
          have HST := Lib.hid hst; have HBH := Lib.hid hbh
          clear hst hbh
          by_cases hlt2 : m < s.size
          · have hdr := drop_at s hlt2
            have htk := take_snoc s m hlt2
            by_cases hc2 : isB s[m] = true
            · have h32 : ((s[m].toNat : Int) != 32) = false := isB_yes hc2
              have HE : Hid (Value.tuple #[.string (s.extract k m), .string (s.extract m s.size)] = .tuple #[.string (tx (st s.data.toList)), .string (tx (bh s.data.toList))]) := by
                show _ = _
                rw [HST.out, HBH.out, hdr, List.takeWhile_cons_of_neg (by simp [hc2]), List.dropWhile_cons_of_neg (by simp [hc2]), List.append_nil, ← hdr, ext_mid s hkm hm, ext_drop]
              have hsl : ∀ w, (Instr.slice 9 (.string s) (some (.int .i64 (k : Int))) (some (.int .i64 (m : Int))) none).run Tryz.prog w = .ok (.string (s.extract k m)) w := fun w =>
                run_slice_string (P := Tryz.prog) w 9 s .i64 .i64 (k : Int) (m : Int) Tryz.underlying9 (by omega) (by omega) (by omega)
              clear hdr htk hc2 HST HBH HSP
              go_wp2_with (fail)
              go_quiet (fail)
              go_wp2_with (fail)
              go_ret2
              exact ⟨congrArg Ending.returned HE.out, below_drewN (Below.refl _ _) _⟩
            · have h32 : ((s[m].toNat : Int) != 32) = true := isB_no hc2
              have HR1 : Hid (st s.data.toList = (s.data.toList.take (m + 1)).drop k ++ (s.data.toList.drop (m + 1)).takeWhile (fun c => !isB c)) := by
                show _ = _
                rw [HST.out, hdr, List.takeWhile_cons_of_pos (by simpa using hc2), htk, List.drop_append_of_le_length (by rw [List.length_take]; simp; omega)]; simp
              have HR2 : Hid (bh s.data.toList = (s.data.toList.drop (m + 1)).dropWhile (fun c => !isB c)) := by
                show _ = _
                rw [HBH.out, hdr, List.dropWhile_cons_of_pos (by simpa using hc2)]
              clear hdr htk hc2 HST HBH
              go_wp2_with (fail)
              go_round
              case rel => exact ⟨m + 1, by omega, by omega, by go_num, HR1.out, HR2.out⟩
              case measure => simp [intOf]; omega
          · obtain rfl : m = s.size := by omega
            have HE : Hid (Value.tuple #[.string (s.extract k s.size), .string ByteArray.empty] = .tuple #[.string (tx (st s.data.toList)), .string (tx (bh s.data.toList))]) := by
              show _ = _
              rw [HST.out, HBH.out, List.drop_of_length_le (show s.data.toList.length ≤ s.size by simp), ext_mid s hkm hm, List.takeWhile_nil, List.append_nil]; rfl
            have hsl : ∀ w, (Instr.slice 9 (.string s) (some (.int .i64 (k : Int))) (some (.int .i64 (s.size : Int))) none).run Tryz.prog w = .ok (.string (s.extract k s.size)) w := fun w =>
              run_slice_string (P := Tryz.prog) w 9 s .i64 .i64 (k : Int) (s.size : Int) Tryz.underlying9 (by omega) (by omega) (by omega)
            clear HST HBH HSP
            go_wp2_with (fail)
            go_quiet (fail)
            go_wp2_with (fail)
            go_ret2
            exact ⟨congrArg Ending.returned HE.out, below_drewN (Below.refl _ _) _⟩
    · have hsp : sp s.data.toList = s.data.toList.drop k := by rw [← hsp0, List.drop_of_length_le (show s.data.toList.length ≤ k by simp; omega)]; rfl
      clear hsp0
      have HSP : Hid (sp s.data.toList = s.data.toList.drop k) := hsp
      clear hsp
      go_wp2_with (fail)
      go_loop [5] (fun t => ∃ m : Nat, k ≤ m ∧ m ≤ s.size ∧ t = .int .i64 (m : Int) ∧ st s.data.toList = (s.data.toList.take m).drop k ++ (s.data.toList.drop m).takeWhile (fun c => !isB c) ∧ bh s.data.toList = (s.data.toList.drop m).dropWhile (fun c => !isB c)) (fun t => s.size - (intOf t).toNat)
      case atStart => exact ⟨k, Nat.le_refl _, hk, rfl, by unfold st; rw [HSP.out, drop_take_nil]; rfl, by unfold bh; rw [HSP.out]⟩
      case round =>
        obtain ⟨m, hkm, hm, rfl, hst, hbh⟩ := hrel
        have HST := Lib.hid hst; have HBH := Lib.hid hbh
        clear hst hbh
        by_cases hlt2 : m < s.size
        · have hdr := drop_at s hlt2
          have htk := take_snoc s m hlt2
          by_cases hc2 : isB s[m] = true
          · have h32 : ((s[m].toNat : Int) != 32) = false := isB_yes hc2
            have HE : Hid (Value.tuple #[.string (s.extract k m), .string (s.extract m s.size)] = .tuple #[.string (tx (st s.data.toList)), .string (tx (bh s.data.toList))]) := by
              show _ = _
              rw [HST.out, HBH.out, hdr, List.takeWhile_cons_of_neg (by simp [hc2]), List.dropWhile_cons_of_neg (by simp [hc2]), List.append_nil, ← hdr, ext_mid s hkm hm, ext_drop]
            have hsl : ∀ w, (Instr.slice 9 (.string s) (some (.int .i64 (k : Int))) (some (.int .i64 (m : Int))) none).run Tryz.prog w = .ok (.string (s.extract k m)) w := fun w =>
              run_slice_string (P := Tryz.prog) w 9 s .i64 .i64 (k : Int) (m : Int) Tryz.underlying9 (by omega) (by omega) (by omega)
            clear hdr htk hc2 HST HBH HSP
            go_wp2_with (fail)
            go_quiet (fail)
            go_wp2_with (fail)
            go_ret2
            exact ⟨congrArg Ending.returned HE.out, below_drewN (Below.refl _ _) _⟩
          · have h32 : ((s[m].toNat : Int) != 32) = true := isB_no hc2
            have HR1 : Hid (st s.data.toList = (s.data.toList.take (m + 1)).drop k ++ (s.data.toList.drop (m + 1)).takeWhile (fun c => !isB c)) := by
              show _ = _
              rw [HST.out, hdr, List.takeWhile_cons_of_pos (by simpa using hc2), htk, List.drop_append_of_le_length (by rw [List.length_take]; simp; omega)]; simp
            have HR2 : Hid (bh s.data.toList = (s.data.toList.drop (m + 1)).dropWhile (fun c => !isB c)) := by
              show _ = _
              rw [HBH.out, hdr, List.dropWhile_cons_of_pos (by simpa using hc2)]
            clear hdr htk hc2 HST HBH
            go_wp2_with (fail)
            go_round
            case rel => exact ⟨m + 1, by omega, by omega, by go_num, HR1.out, HR2.out⟩
            case measure => simp [intOf]; omega
        · obtain rfl : m = s.size := by omega
          have HE : Hid (Value.tuple #[.string (s.extract k s.size), .string ByteArray.empty] = .tuple #[.string (tx (st s.data.toList)), .string (tx (bh s.data.toList))]) := by
            show _ = _
            rw [HST.out, HBH.out, List.drop_of_length_le (show s.data.toList.length ≤ s.size by simp), ext_mid s hkm hm, List.takeWhile_nil, List.append_nil]; rfl
          have hsl : ∀ w, (Instr.slice 9 (.string s) (some (.int .i64 (k : Int))) (some (.int .i64 (s.size : Int))) none).run Tryz.prog w = .ok (.string (s.extract k s.size)) w := fun w =>
            run_slice_string (P := Tryz.prog) w 9 s .i64 .i64 (k : Int) (s.size : Int) Tryz.underlying9 (by omega) (by omega) (by omega)
          clear HST HBH HSP
          go_wp2_with (fail)
          go_quiet (fail)
          go_wp2_with (fail)
          go_ret2
          exact ⟨congrArg Ending.returned HE.out, below_drewN (Below.refl _ _) _⟩
end Go.Proofs.YtcdjincaedpodaaGreatDoor.Ev
/-
  Stretches without blanks, one after another. Plain.
-/
namespace Go.Proofs.YtcdjincaedpodaaGreatDoor.Ev
open Go.Proofs.YtcdjincaedpodaaGreatDoor.Ov Go.Proofs.YtcdjincaedpodaaGreatDoor.Tp Go.Proofs.YtcdjincaedpodaaGreatDoor.Ga Go.Proofs.YtcdjincaedpodaaGreatDoor.Va Go.Proofs.YtcdjincaedpodaaGreatDoor.Ex

theorem wdF_any : ∀ (f g : Nat) (s : List UInt8), s.length < f → s.length < g → wdF f s = wdF g s
  | 0, _, _, h, _ => absurd h (by omega)
  | _ + 1, 0, _, _, h => absurd h (by omega)
  | f + 1, g + 1, s, hf, hg => by
    unfold wdF
    split
    · rfl
    · rename_i h0
      have h1 := bh_le s
      have h2 : 0 < (st s).length := List.length_pos_iff.2 h0
      rw [wdF_any f g (bh s) (by omega) (by omega)]
theorem wds_nil {s : List UInt8} (h : st s = []) : wds s = [] := by unfold wds wdF; rw [if_pos h]
theorem wds_cons {s : List UInt8} (h : st s ≠ []) : wds s = st s :: wds (bh s) := by
  have h1 := bh_le s
  have h2 : 0 < (st s).length := List.length_pos_iff.2 h
  show wdF (s.length + 1) s = _
  rw [wdF, if_neg h]
  unfold wds
  rw [wdF_any s.length ((bh s).length + 1) (bh s) (by omega) (by omega)]
theorem sp_blank (s : List UInt8) : sp (32 :: s) = sp s := rfl
theorem wds_blank (s : List UInt8) : wds (32 :: s) = wds s := by
  have h1 : st (32 :: s) = st s := rfl
  have h2 : bh (32 :: s) = bh s := rfl
  by_cases h : st s = []
  · rw [wds_nil h, wds_nil (by rw [h1]; exact h)]
  · rw [wds_cons h, wds_cons (by rw [h1]; exact h), h1, h2]
theorem wds_empty : wds [] = [] := rfl
/-- A stretch that a text begins with. -/
theorem wds_front {s : List UInt8} {c : UInt8} (hc : isB c = false) : st (c :: s) = c :: s.takeWhile (fun c => !isB c) ∧ bh (c :: s) = s.dropWhile (fun c => !isB c) := by
  unfold st bh sp
  rw [List.dropWhile_cons_of_neg (by rw [hc]; decide), List.takeWhile_cons_of_pos (by rw [hc]; rfl), List.dropWhile_cons_of_pos (by rw [hc]; rfl)]
  exact ⟨rfl, rfl⟩
/-- The word that has a number. -/
def wdN (s : List UInt8) (y : Int) : Int ⊕ Va := if y < 0 then .inl 14 else match (wds s)[y.toNat]? with | some x => .inr (tv x) | none => .inl 14
theorem wdN_nil {s : List UInt8} (h : st s = []) (y : Int) : wdN s y = .inl 14 := by
  unfold wdN
  rw [wds_nil h]
  split <;> rfl
theorem wdN_zero {s : List UInt8} (h : st s ≠ []) : wdN s 0 = .inr (tv (st s)) := by
  unfold wdN
  rw [wds_cons h]; rfl
theorem wdN_more {s : List UInt8} (h : st s ≠ []) {y : Int} (hy : y ≠ 0) : wdN s y = wdN (bh s) (y - 1) := by
  unfold wdN
  rw [wds_cons h]
  by_cases h0 : y < 0
  · rw [if_pos h0, if_pos (by omega)]
  · rw [if_neg h0, if_neg (by omega), show y.toNat = (y - 1).toNat + 1 by omega, List.getElem?_cons_succ]
end Go.Proofs.YtcdjincaedpodaaGreatDoor.Ev
/-
  Cut, words, word (written by gen_evalike.py).
-/
namespace Go.Proofs.YtcdjincaedpodaaGreatDoor.Ev
open Go.ChangeShapes Go.WideShapes Go.ChangeAt Go.RowKit Go.Proofs.YtcdjincaedpodaaGreatDoor.Ov Go.Proofs.YtcdjincaedpodaaGreatDoor.Va Go.Proofs.YtcdjincaedpodaaGreatDoor.Ga Go.Proofs.YtcdjincaedpodaaGreatDoor.Ex

theorem cut_bad {l : List Va} (h : (at1 l).n < 0 ∨ (at2 l).n < (at1 l).n ∨ ((at0 l).s.length : Int) < (at2 l).n) (S : St) (n : Nat) : af 16 l S n = .er 14 := by
  show lift (if (at1 l).n < 0 ∨ (at2 l).n < (at1 l).n ∨ ((at0 l).s.length : Int) < (at2 l).n then .inl 14 else .inr (tv (((at0 l).s.take (at2 l).n.toNat).drop (at1 l).n.toNat))) S n = _
  rw [if_pos h]; rfl
theorem cut_ok {l : List Va} (h : ¬ ((at1 l).n < 0 ∨ (at2 l).n < (at1 l).n ∨ ((at0 l).s.length : Int) < (at2 l).n)) (S : St) (n : Nat) : af 16 l S n = .ok (tv (((at0 l).s.take (at2 l).n.toNat).drop (at1 l).n.toNat)) S n := by
  show lift (if (at1 l).n < 0 ∨ (at2 l).n < (at1 l).n ∨ ((at0 l).s.length : Int) < (at2 l).n then .inl 14 else .inr (tv (((at0 l).s.take (at2 l).n.toNat).drop (at1 l).n.toNat))) S n = _
  rw [if_neg h]; rfl
theorem word_af (l : List Va) : af 17 l = lift (wdN (at0 l).s (at1 l).n) := rfl
theorem words_af (l : List Va) : af 18 l = ret (nv (wds (at0 l).s).length) := rfl
def strSz : Value → Nat
  | .string s => s.size
  | _ => 0
theorem size_tx (l : List UInt8) : (tx l).size = l.length := tx_size l
set_option maxRecDepth 100000 in
set_option maxHeartbeats 2000000 in
theorem deed_cut {d : Nat} (HD : DoC (ev d) d) : DeedC d 16 50 := by
  intro w0 A c E b l S n ov w k r hcx hd hg hkl ho hrn hx hd24
  have HBD : Hid (body (ev d) (nd l k) (l.drop (k + 1)) S n = bnd (prt (ev d) [1, 0, 0] (l.drop (k + 1))) (af 16) S n) := by show _ = _; exact congrFun (congrFun (body_prt ho (by decide) (by decide) (by decide) (by decide) (by decide) (by decide)) S) n
  have HP := Lib.hid (pre_any HD [1, 0, 0] (by decide) (by decide) (by decide) hcx hd hg hkl hx (by decide) hd24)
  clear hcx hd hg ho hrn hx hd24 HD
  go_enter Tryz.func50, Tryz.ntmps50
  go_wp2_with (fail)
  refine (HP.out).mono ?_
  rintro e w3 ⟨p0, p1, p2, x, S1, n1, ov1, rfl, ha, r0, r1, r2, hgd, hd3, hm3, hx3⟩
  have HA := Lib.hid ha; have R0 := Lib.hid r0; have R1 := Lib.hid r1; have R2 := Lib.hid r2; have HG := Lib.hid hgd; have HD3 := Lib.hid hd3; have HM3 := Lib.hid hm3; have HX3 := Lib.hid hx3
  have hlZ := hx3.blk.lt
  clear ha r0 r1 r2 hgd hd3 hm3 hx3 HP
  rcases HA.out.cases with ⟨hx0, hX⟩ | ⟨rfl, a, ha, hX⟩
  · have HX0 := Lib.hid hx0; have HXX := Lib.hid hX
    have hx1 : (x == 0) = false := by simpa using hx0
    have hx2 : (x != 0) = true := by simpa using hx0
    clear hx0 hX HA
    have cX0 := HX3.out.blk.c 0 _ rfl; have zX0 := HX3.out.blk.f 0 _ rfl
    have cX1 := HX3.out.blk.c 1 _ rfl; have zX1 := HX3.out.blk.f 1 _ rfl
    have cX2 := HX3.out.blk.c 2 _ rfl; have zX2 := HX3.out.blk.f 2 _ rfl
    have cX3 := HX3.out.blk.c 3 _ rfl; have zX3 := HX3.out.blk.f 3 _ rfl
    have cX4 := HX3.out.blk.c 4 _ rfl; have zX4 := HX3.out.blk.f 4 _ rfl
    have hltX := HX3.out.blk.lt
    go_wp2_with (fail)
    have hd9 := ((HD3.out.puts HX3.out 0 [.int .i64 0, .int .i64 0, .string ⟨#[]⟩, .int .i64 0, .int .i64 0]).old (box1 _ (.cells #[.int .i64 p0.k, .int .i64 p0.n, .string (tx p0.s), .int .i64 p0.x, .int .i64 p0.y, .int .i64 p1.k, .int .i64 p1.n, .string (tx p1.s), .int .i64 p1.x, .int .i64 p1.y, .int .i64 p2.k, .int .i64 p2.n, .string (tx p2.s), .int .i64 p2.x, .int .i64 p2.y] 106)))
    have hm9 := ((Mv.puts (B := w.heap.size) HM3.out (by omega) 0 [.int .i64 0, .int .i64 0, .string ⟨#[]⟩, .int .i64 0, .int .i64 0]).old (box1 _ (.cells #[.int .i64 p0.k, .int .i64 p0.n, .string (tx p0.s), .int .i64 p0.x, .int .i64 p0.y, .int .i64 p1.k, .int .i64 p1.n, .string (tx p1.s), .int .i64 p1.x, .int .i64 p1.y, .int .i64 p2.k, .int .i64 p2.n, .string (tx p2.s), .int .i64 p2.x, .int .i64 p2.y] 106)))
    have hxX := ((Box.puts (HX3.out) [.int .i64 0, .int .i64 0, .string ⟨#[]⟩, .int .i64 0, .int .i64 0] rfl).old (box1 _ (.cells #[.int .i64 p0.k, .int .i64 p0.n, .string (tx p0.s), .int .i64 p0.x, .int .i64 p0.y, .int .i64 p1.k, .int .i64 p1.n, .string (tx p1.s), .int .i64 p1.x, .int .i64 p1.y, .int .i64 p2.k, .int .i64 p2.n, .string (tx p2.s), .int .i64 p2.x, .int .i64 p2.y] 106)))
    clear cX0 zX0 cX1 zX1 cX2 zX2 cX3 zX3 cX4 zX4 HD3 HM3 HX3 
    change bodyPost _ _ _ _ _ ((((((w3.setCell ⟨w.heap.size, 0, none⟩ (.int .i64 0)).setCell ⟨w.heap.size, 1, none⟩ (.int .i64 0)).setCell ⟨w.heap.size, 2, none⟩ (.string ⟨#[]⟩)).setCell ⟨w.heap.size, 3, none⟩ (.int .i64 0)).setCell ⟨w.heap.size, 4, none⟩ (.int .i64 0)).alloc (.cells #[.int .i64 p0.k, .int .i64 p0.n, .string (tx p0.s), .int .i64 p0.x, .int .i64 p0.y, .int .i64 p1.k, .int .i64 p1.n, .string (tx p1.s), .int .i64 p1.x, .int .i64 p1.y, .int .i64 p2.k, .int .i64 p2.n, .string (tx p2.s), .int .i64 p2.x, .int .i64 p2.y] 106))
    change Doer _ _ _ _ _ _ _ _ _ (((((((w3.setCell ⟨w.heap.size, 0, none⟩ (.int .i64 0)).setCell ⟨w.heap.size, 1, none⟩ (.int .i64 0)).setCell ⟨w.heap.size, 2, none⟩ (.string ⟨#[]⟩)).setCell ⟨w.heap.size, 3, none⟩ (.int .i64 0)).setCell ⟨w.heap.size, 4, none⟩ (.int .i64 0)).alloc (.cells #[.int .i64 p0.k, .int .i64 p0.n, .string (tx p0.s), .int .i64 p0.x, .int .i64 p0.y, .int .i64 p1.k, .int .i64 p1.n, .string (tx p1.s), .int .i64 p1.x, .int .i64 p1.y, .int .i64 p2.k, .int .i64 p2.n, .string (tx p2.s), .int .i64 p2.x, .int .i64 p2.y] 106))) at hd9
    change Mv _ _ _ _ (((((((w3.setCell ⟨w.heap.size, 0, none⟩ (.int .i64 0)).setCell ⟨w.heap.size, 1, none⟩ (.int .i64 0)).setCell ⟨w.heap.size, 2, none⟩ (.string ⟨#[]⟩)).setCell ⟨w.heap.size, 3, none⟩ (.int .i64 0)).setCell ⟨w.heap.size, 4, none⟩ (.int .i64 0)).alloc (.cells #[.int .i64 p0.k, .int .i64 p0.n, .string (tx p0.s), .int .i64 p0.x, .int .i64 p0.y, .int .i64 p1.k, .int .i64 p1.n, .string (tx p1.s), .int .i64 p1.x, .int .i64 p1.y, .int .i64 p2.k, .int .i64 p2.n, .string (tx p2.s), .int .i64 p2.x, .int .i64 p2.y] 106))) at hm9
    change Box _ _ _ _ _ _ (((((((w3.setCell ⟨w.heap.size, 0, none⟩ (.int .i64 0)).setCell ⟨w.heap.size, 1, none⟩ (.int .i64 0)).setCell ⟨w.heap.size, 2, none⟩ (.string ⟨#[]⟩)).setCell ⟨w.heap.size, 3, none⟩ (.int .i64 0)).setCell ⟨w.heap.size, 4, none⟩ (.int .i64 0)).alloc (.cells #[.int .i64 p0.k, .int .i64 p0.n, .string (tx p0.s), .int .i64 p0.x, .int .i64 p0.y, .int .i64 p1.k, .int .i64 p1.n, .string (tx p1.s), .int .i64 p1.x, .int .i64 p1.y, .int .i64 p2.k, .int .i64 p2.n, .string (tx p2.s), .int .i64 p2.x, .int .i64 p2.y] 106))) at hxX
    generalize (((((((w3.setCell ⟨w.heap.size, 0, none⟩ (.int .i64 0)).setCell ⟨w.heap.size, 1, none⟩ (.int .i64 0)).setCell ⟨w.heap.size, 2, none⟩ (.string ⟨#[]⟩)).setCell ⟨w.heap.size, 3, none⟩ (.int .i64 0)).setCell ⟨w.heap.size, 4, none⟩ (.int .i64 0)).alloc (.cells #[.int .i64 p0.k, .int .i64 p0.n, .string (tx p0.s), .int .i64 p0.x, .int .i64 p0.y, .int .i64 p1.k, .int .i64 p1.n, .string (tx p1.s), .int .i64 p1.x, .int .i64 p1.y, .int .i64 p2.k, .int .i64 p2.n, .string (tx p2.s), .int .i64 p2.x, .int .i64 p2.y] 106))) = w9 at *
    have cX0 := hxX.blk.c 0 _ rfl
    have cX1 := hxX.blk.c 1 _ rfl
    have cX2 := hxX.blk.c 2 _ rfl
    have cX3 := hxX.blk.c 3 _ rfl
    have cX4 := hxX.blk.c 4 _ rfl
    refine bodyPost_ret (v := .tuple #[.agg #[.int .i64 0, .int .i64 0, .string ⟨#[]⟩, .int .i64 0, .int .i64 0], .int .i64 x]) (by simp [results, Tryz.results50, go_sem, cX0, cX1, cX2, cX3, cX4]) rfl ⟨vz, x, S1, n1, ov1, rfl, by rw [HBD.out]; exact Ans.er (bnd_er HXX.out) rfl HX0.out, hd9, hm9⟩
  · have HXX := Lib.hid hX; have HAA := Lib.hid ha; have HGD := Lib.hid (HG.out rfl)
    clear hX ha HA HG
    have h0 := (rt_all R0.out).2.1; have h1 := (rt_all R1.out).1; have h2 := (rt_all R2.out).1
    obtain ⟨h11, h12⟩ := h1; obtain ⟨h21, h22⟩ := h2
    obtain ⟨u, hu⟩ : ∃ u, tx p0.s = u := ⟨_, rfl⟩
    have hus : u.size = p0.s.length := by rw [← hu, tx_size]
    have HU := Lib.hid hu
    rw [hu]
    clear hu
    go_wp2_with (fail)
    go_quiet (fail)
    have HD4 := Lib.hid ((HD3.out.old (box1 w3 (.cells #[.int .i64 p0.k, .int .i64 p0.n, .string (u), .int .i64 p0.x, .int .i64 p0.y, .int .i64 p1.k, .int .i64 p1.n, .string (tx p1.s), .int .i64 p1.x, .int .i64 p1.y, .int .i64 p2.k, .int .i64 p2.n, .string (tx p2.s), .int .i64 p2.x, .int .i64 p2.y] 106))).old (below_drewN (Below.refl _ _) nq)); have HM4 := Lib.hid ((HM3.out.old (box1 w3 (.cells #[.int .i64 p0.k, .int .i64 p0.n, .string (u), .int .i64 p0.x, .int .i64 p0.y, .int .i64 p1.k, .int .i64 p1.n, .string (tx p1.s), .int .i64 p1.x, .int .i64 p1.y, .int .i64 p2.k, .int .i64 p2.n, .string (tx p2.s), .int .i64 p2.x, .int .i64 p2.y] 106))).old (below_drewN (Below.refl _ _) nq)); have HX4 := Lib.hid ((HX3.out.old (box1 w3 (.cells #[.int .i64 p0.k, .int .i64 p0.n, .string (u), .int .i64 p0.x, .int .i64 p0.y, .int .i64 p1.k, .int .i64 p1.n, .string (tx p1.s), .int .i64 p1.x, .int .i64 p1.y, .int .i64 p2.k, .int .i64 p2.n, .string (tx p2.s), .int .i64 p2.x, .int .i64 p2.y] 106))).old (below_drewN (Below.refl _ _) nq))
    clear HD3 HM3 HX3
    generalize World.drewN (w3.alloc (.cells #[.int .i64 p0.k, .int .i64 p0.n, .string (u), .int .i64 p0.x, .int .i64 p0.y, .int .i64 p1.k, .int .i64 p1.n, .string (tx p1.s), .int .i64 p1.x, .int .i64 p1.y, .int .i64 p2.k, .int .i64 p2.n, .string (tx p2.s), .int .i64 p2.x, .int .i64 p2.y] 106)) nq = w4 at *
    by_cases hc1 : p1.n < 0
    · skip
      have HC : Hid ((p1.n < 0 ∨ p2.n < p1.n ∨ (p0.s.length : Int) < p2.n)) := .inl hc1
      have cX0 := HX4.out.blk.c 0 _ rfl; have zX0 := HX4.out.blk.f 0 _ rfl
      have cX1 := HX4.out.blk.c 1 _ rfl; have zX1 := HX4.out.blk.f 1 _ rfl
      have cX2 := HX4.out.blk.c 2 _ rfl; have zX2 := HX4.out.blk.f 2 _ rfl
      have cX3 := HX4.out.blk.c 3 _ rfl; have zX3 := HX4.out.blk.f 3 _ rfl
      have cX4 := HX4.out.blk.c 4 _ rfl; have zX4 := HX4.out.blk.f 4 _ rfl
      have hltX := HX4.out.blk.lt
      go_wp2_with (fail)
      have hd9 := (HD4.out.puts HX4.out 0 [.int .i64 0, .int .i64 0, .string ⟨#[]⟩, .int .i64 0, .int .i64 0])
      have hm9 := (Mv.puts (B := w.heap.size) HM4.out (by omega) 0 [.int .i64 0, .int .i64 0, .string ⟨#[]⟩, .int .i64 0, .int .i64 0])
      have hxX := (Box.puts (HX4.out) [.int .i64 0, .int .i64 0, .string ⟨#[]⟩, .int .i64 0, .int .i64 0] rfl)
      clear cX0 zX0 cX1 zX1 cX2 zX2 cX3 zX3 cX4 zX4 HD4 HM4 HX4 
      change bodyPost _ _ _ _ _ (((((w4.setCell ⟨w.heap.size, 0, none⟩ (.int .i64 0)).setCell ⟨w.heap.size, 1, none⟩ (.int .i64 0)).setCell ⟨w.heap.size, 2, none⟩ (.string ⟨#[]⟩)).setCell ⟨w.heap.size, 3, none⟩ (.int .i64 0)).setCell ⟨w.heap.size, 4, none⟩ (.int .i64 0))
      change Doer _ _ _ _ _ _ _ _ _ ((((((w4.setCell ⟨w.heap.size, 0, none⟩ (.int .i64 0)).setCell ⟨w.heap.size, 1, none⟩ (.int .i64 0)).setCell ⟨w.heap.size, 2, none⟩ (.string ⟨#[]⟩)).setCell ⟨w.heap.size, 3, none⟩ (.int .i64 0)).setCell ⟨w.heap.size, 4, none⟩ (.int .i64 0))) at hd9
      change Mv _ _ _ _ ((((((w4.setCell ⟨w.heap.size, 0, none⟩ (.int .i64 0)).setCell ⟨w.heap.size, 1, none⟩ (.int .i64 0)).setCell ⟨w.heap.size, 2, none⟩ (.string ⟨#[]⟩)).setCell ⟨w.heap.size, 3, none⟩ (.int .i64 0)).setCell ⟨w.heap.size, 4, none⟩ (.int .i64 0))) at hm9
      change Box _ _ _ _ _ _ ((((((w4.setCell ⟨w.heap.size, 0, none⟩ (.int .i64 0)).setCell ⟨w.heap.size, 1, none⟩ (.int .i64 0)).setCell ⟨w.heap.size, 2, none⟩ (.string ⟨#[]⟩)).setCell ⟨w.heap.size, 3, none⟩ (.int .i64 0)).setCell ⟨w.heap.size, 4, none⟩ (.int .i64 0))) at hxX
      generalize ((((((w4.setCell ⟨w.heap.size, 0, none⟩ (.int .i64 0)).setCell ⟨w.heap.size, 1, none⟩ (.int .i64 0)).setCell ⟨w.heap.size, 2, none⟩ (.string ⟨#[]⟩)).setCell ⟨w.heap.size, 3, none⟩ (.int .i64 0)).setCell ⟨w.heap.size, 4, none⟩ (.int .i64 0))) = w9 at *
      have cX0 := hxX.blk.c 0 _ rfl
      have cX1 := hxX.blk.c 1 _ rfl
      have cX2 := hxX.blk.c 2 _ rfl
      have cX3 := hxX.blk.c 3 _ rfl
      have cX4 := hxX.blk.c 4 _ rfl
      refine bodyPost_ret (v := .tuple #[.agg #[.int .i64 0, .int .i64 0, .string ⟨#[]⟩, .int .i64 0, .int .i64 0], .int .i64 14]) (by simp [results, Tryz.results50, go_sem, cX0, cX1, cX2, cX3, cX4]) rfl ⟨vz, 14, S1, n1, ov1, rfl, by rw [HBD.out]; obtain ⟨rfl, rfl, rfl⟩ := HAA.out; exact Ans.er (by rw [bnd_ok HXX.out]; exact cut_bad HC.out _ _) rfl (by decide), hd9, hm9⟩
    · skip
      by_cases hc2 : p2.n < p1.n
      · skip
        have HC : Hid ((p1.n < 0 ∨ p2.n < p1.n ∨ (p0.s.length : Int) < p2.n)) := .inr (.inl hc2)
        have cX0 := HX4.out.blk.c 0 _ rfl; have zX0 := HX4.out.blk.f 0 _ rfl
        have cX1 := HX4.out.blk.c 1 _ rfl; have zX1 := HX4.out.blk.f 1 _ rfl
        have cX2 := HX4.out.blk.c 2 _ rfl; have zX2 := HX4.out.blk.f 2 _ rfl
        have cX3 := HX4.out.blk.c 3 _ rfl; have zX3 := HX4.out.blk.f 3 _ rfl
        have cX4 := HX4.out.blk.c 4 _ rfl; have zX4 := HX4.out.blk.f 4 _ rfl
        have hltX := HX4.out.blk.lt
        go_wp2_with (fail)
        have hd9 := (HD4.out.puts HX4.out 0 [.int .i64 0, .int .i64 0, .string ⟨#[]⟩, .int .i64 0, .int .i64 0])
        have hm9 := (Mv.puts (B := w.heap.size) HM4.out (by omega) 0 [.int .i64 0, .int .i64 0, .string ⟨#[]⟩, .int .i64 0, .int .i64 0])
        have hxX := (Box.puts (HX4.out) [.int .i64 0, .int .i64 0, .string ⟨#[]⟩, .int .i64 0, .int .i64 0] rfl)
        clear cX0 zX0 cX1 zX1 cX2 zX2 cX3 zX3 cX4 zX4 HD4 HM4 HX4 
        change bodyPost _ _ _ _ _ (((((w4.setCell ⟨w.heap.size, 0, none⟩ (.int .i64 0)).setCell ⟨w.heap.size, 1, none⟩ (.int .i64 0)).setCell ⟨w.heap.size, 2, none⟩ (.string ⟨#[]⟩)).setCell ⟨w.heap.size, 3, none⟩ (.int .i64 0)).setCell ⟨w.heap.size, 4, none⟩ (.int .i64 0))
        change Doer _ _ _ _ _ _ _ _ _ ((((((w4.setCell ⟨w.heap.size, 0, none⟩ (.int .i64 0)).setCell ⟨w.heap.size, 1, none⟩ (.int .i64 0)).setCell ⟨w.heap.size, 2, none⟩ (.string ⟨#[]⟩)).setCell ⟨w.heap.size, 3, none⟩ (.int .i64 0)).setCell ⟨w.heap.size, 4, none⟩ (.int .i64 0))) at hd9
        change Mv _ _ _ _ ((((((w4.setCell ⟨w.heap.size, 0, none⟩ (.int .i64 0)).setCell ⟨w.heap.size, 1, none⟩ (.int .i64 0)).setCell ⟨w.heap.size, 2, none⟩ (.string ⟨#[]⟩)).setCell ⟨w.heap.size, 3, none⟩ (.int .i64 0)).setCell ⟨w.heap.size, 4, none⟩ (.int .i64 0))) at hm9
        change Box _ _ _ _ _ _ ((((((w4.setCell ⟨w.heap.size, 0, none⟩ (.int .i64 0)).setCell ⟨w.heap.size, 1, none⟩ (.int .i64 0)).setCell ⟨w.heap.size, 2, none⟩ (.string ⟨#[]⟩)).setCell ⟨w.heap.size, 3, none⟩ (.int .i64 0)).setCell ⟨w.heap.size, 4, none⟩ (.int .i64 0))) at hxX
        generalize ((((((w4.setCell ⟨w.heap.size, 0, none⟩ (.int .i64 0)).setCell ⟨w.heap.size, 1, none⟩ (.int .i64 0)).setCell ⟨w.heap.size, 2, none⟩ (.string ⟨#[]⟩)).setCell ⟨w.heap.size, 3, none⟩ (.int .i64 0)).setCell ⟨w.heap.size, 4, none⟩ (.int .i64 0))) = w9 at *
        have cX0 := hxX.blk.c 0 _ rfl
        have cX1 := hxX.blk.c 1 _ rfl
        have cX2 := hxX.blk.c 2 _ rfl
        have cX3 := hxX.blk.c 3 _ rfl
        have cX4 := hxX.blk.c 4 _ rfl
        refine bodyPost_ret (v := .tuple #[.agg #[.int .i64 0, .int .i64 0, .string ⟨#[]⟩, .int .i64 0, .int .i64 0], .int .i64 14]) (by simp [results, Tryz.results50, go_sem, cX0, cX1, cX2, cX3, cX4]) rfl ⟨vz, 14, S1, n1, ov1, rfl, by rw [HBD.out]; obtain ⟨rfl, rfl, rfl⟩ := HAA.out; exact Ans.er (by rw [bnd_ok HXX.out]; exact cut_bad HC.out _ _) rfl (by decide), hd9, hm9⟩
      · skip
        by_cases hc3 : (u.size : Int) < p2.n
        · skip
          have HC : Hid ((p1.n < 0 ∨ p2.n < p1.n ∨ (p0.s.length : Int) < p2.n)) := .inr (.inr (by omega))
          have cX0 := HX4.out.blk.c 0 _ rfl; have zX0 := HX4.out.blk.f 0 _ rfl
          have cX1 := HX4.out.blk.c 1 _ rfl; have zX1 := HX4.out.blk.f 1 _ rfl
          have cX2 := HX4.out.blk.c 2 _ rfl; have zX2 := HX4.out.blk.f 2 _ rfl
          have cX3 := HX4.out.blk.c 3 _ rfl; have zX3 := HX4.out.blk.f 3 _ rfl
          have cX4 := HX4.out.blk.c 4 _ rfl; have zX4 := HX4.out.blk.f 4 _ rfl
          have hltX := HX4.out.blk.lt
          go_wp2_with (fail)
          have hd9 := (HD4.out.puts HX4.out 0 [.int .i64 0, .int .i64 0, .string ⟨#[]⟩, .int .i64 0, .int .i64 0])
          have hm9 := (Mv.puts (B := w.heap.size) HM4.out (by omega) 0 [.int .i64 0, .int .i64 0, .string ⟨#[]⟩, .int .i64 0, .int .i64 0])
          have hxX := (Box.puts (HX4.out) [.int .i64 0, .int .i64 0, .string ⟨#[]⟩, .int .i64 0, .int .i64 0] rfl)
          clear cX0 zX0 cX1 zX1 cX2 zX2 cX3 zX3 cX4 zX4 HD4 HM4 HX4 
          change bodyPost _ _ _ _ _ (((((w4.setCell ⟨w.heap.size, 0, none⟩ (.int .i64 0)).setCell ⟨w.heap.size, 1, none⟩ (.int .i64 0)).setCell ⟨w.heap.size, 2, none⟩ (.string ⟨#[]⟩)).setCell ⟨w.heap.size, 3, none⟩ (.int .i64 0)).setCell ⟨w.heap.size, 4, none⟩ (.int .i64 0))
          change Doer _ _ _ _ _ _ _ _ _ ((((((w4.setCell ⟨w.heap.size, 0, none⟩ (.int .i64 0)).setCell ⟨w.heap.size, 1, none⟩ (.int .i64 0)).setCell ⟨w.heap.size, 2, none⟩ (.string ⟨#[]⟩)).setCell ⟨w.heap.size, 3, none⟩ (.int .i64 0)).setCell ⟨w.heap.size, 4, none⟩ (.int .i64 0))) at hd9
          change Mv _ _ _ _ ((((((w4.setCell ⟨w.heap.size, 0, none⟩ (.int .i64 0)).setCell ⟨w.heap.size, 1, none⟩ (.int .i64 0)).setCell ⟨w.heap.size, 2, none⟩ (.string ⟨#[]⟩)).setCell ⟨w.heap.size, 3, none⟩ (.int .i64 0)).setCell ⟨w.heap.size, 4, none⟩ (.int .i64 0))) at hm9
          change Box _ _ _ _ _ _ ((((((w4.setCell ⟨w.heap.size, 0, none⟩ (.int .i64 0)).setCell ⟨w.heap.size, 1, none⟩ (.int .i64 0)).setCell ⟨w.heap.size, 2, none⟩ (.string ⟨#[]⟩)).setCell ⟨w.heap.size, 3, none⟩ (.int .i64 0)).setCell ⟨w.heap.size, 4, none⟩ (.int .i64 0))) at hxX
          generalize ((((((w4.setCell ⟨w.heap.size, 0, none⟩ (.int .i64 0)).setCell ⟨w.heap.size, 1, none⟩ (.int .i64 0)).setCell ⟨w.heap.size, 2, none⟩ (.string ⟨#[]⟩)).setCell ⟨w.heap.size, 3, none⟩ (.int .i64 0)).setCell ⟨w.heap.size, 4, none⟩ (.int .i64 0))) = w9 at *
          have cX0 := hxX.blk.c 0 _ rfl
          have cX1 := hxX.blk.c 1 _ rfl
          have cX2 := hxX.blk.c 2 _ rfl
          have cX3 := hxX.blk.c 3 _ rfl
          have cX4 := hxX.blk.c 4 _ rfl
          refine bodyPost_ret (v := .tuple #[.agg #[.int .i64 0, .int .i64 0, .string ⟨#[]⟩, .int .i64 0, .int .i64 0], .int .i64 14]) (by simp [results, Tryz.results50, go_sem, cX0, cX1, cX2, cX3, cX4]) rfl ⟨vz, 14, S1, n1, ov1, rfl, by rw [HBD.out]; obtain ⟨rfl, rfl, rfl⟩ := HAA.out; exact Ans.er (by rw [bnd_ok HXX.out]; exact cut_bad HC.out _ _) rfl (by decide), hd9, hm9⟩
        · skip
          have HC : Hid (¬ (p1.n < 0 ∨ p2.n < p1.n ∨ (p0.s.length : Int) < p2.n)) := by show ¬ _; omega
          have hsl : ∀ w, (Instr.slice 9 (.string u) (some (.int .i64 p1.n)) (some (.int .i64 p2.n)) none).run Tryz.prog w = .ok (.string (u.extract p1.n.toNat p2.n.toNat)) w := fun w =>
            run_slice_string (P := Tryz.prog) w 9 u .i64 .i64 p1.n p2.n Tryz.underlying9 (by omega) (by omega) (by omega)
          have HE : Hid (u.extract p1.n.toNat p2.n.toNat = tx ((p0.s.take p2.n.toNat).drop p1.n.toNat)) := by
            show _ = _
            rw [ext_mid u (show p1.n.toNat ≤ p2.n.toNat by omega) (by omega), ← HU.out, tx_list]
          go_wp2_with (fail)
          refine (etext_any _ _).mono ?_
          rintro e w5 ⟨rfl, hb⟩
          have HD5 := Lib.hid (HD4.out.old hb)
          have HM5 := Lib.hid (HM4.out.old hb)
          have HX5 := Lib.hid (HX4.out.old hb)
          clear hsl
          clear hb HD4 HM4 HX4  
          have cX0 := HX5.out.blk.c 0 _ rfl; have zX0 := HX5.out.blk.f 0 _ rfl
          have cX1 := HX5.out.blk.c 1 _ rfl; have zX1 := HX5.out.blk.f 1 _ rfl
          have cX2 := HX5.out.blk.c 2 _ rfl; have zX2 := HX5.out.blk.f 2 _ rfl
          have cX3 := HX5.out.blk.c 3 _ rfl; have zX3 := HX5.out.blk.f 3 _ rfl
          have cX4 := HX5.out.blk.c 4 _ rfl; have zX4 := HX5.out.blk.f 4 _ rfl
          have hltX := HX5.out.blk.lt
          go_wp2_with (fail)
          have hd9 := (HD5.out.puts HX5.out 0 [.int .i64 1, .int .i64 0, .string (u.extract p1.n.toNat p2.n.toNat), .int .i64 0, .int .i64 0])
          have hm9 := (Mv.puts (B := w.heap.size) HM5.out (by omega) 0 [.int .i64 1, .int .i64 0, .string (u.extract p1.n.toNat p2.n.toNat), .int .i64 0, .int .i64 0])
          have hxX := (Box.puts (HX5.out) [.int .i64 1, .int .i64 0, .string (u.extract p1.n.toNat p2.n.toNat), .int .i64 0, .int .i64 0] rfl)
          clear cX0 zX0 cX1 zX1 cX2 zX2 cX3 zX3 cX4 zX4 HD5 HM5 HX5 
          change bodyPost _ _ _ _ _ (((((w5.setCell ⟨w.heap.size, 0, none⟩ (.int .i64 1)).setCell ⟨w.heap.size, 1, none⟩ (.int .i64 0)).setCell ⟨w.heap.size, 2, none⟩ (.string (u.extract p1.n.toNat p2.n.toNat))).setCell ⟨w.heap.size, 3, none⟩ (.int .i64 0)).setCell ⟨w.heap.size, 4, none⟩ (.int .i64 0))
          change Doer _ _ _ _ _ _ _ _ _ ((((((w5.setCell ⟨w.heap.size, 0, none⟩ (.int .i64 1)).setCell ⟨w.heap.size, 1, none⟩ (.int .i64 0)).setCell ⟨w.heap.size, 2, none⟩ (.string (u.extract p1.n.toNat p2.n.toNat))).setCell ⟨w.heap.size, 3, none⟩ (.int .i64 0)).setCell ⟨w.heap.size, 4, none⟩ (.int .i64 0))) at hd9
          change Mv _ _ _ _ ((((((w5.setCell ⟨w.heap.size, 0, none⟩ (.int .i64 1)).setCell ⟨w.heap.size, 1, none⟩ (.int .i64 0)).setCell ⟨w.heap.size, 2, none⟩ (.string (u.extract p1.n.toNat p2.n.toNat))).setCell ⟨w.heap.size, 3, none⟩ (.int .i64 0)).setCell ⟨w.heap.size, 4, none⟩ (.int .i64 0))) at hm9
          change Box _ _ _ _ _ _ ((((((w5.setCell ⟨w.heap.size, 0, none⟩ (.int .i64 1)).setCell ⟨w.heap.size, 1, none⟩ (.int .i64 0)).setCell ⟨w.heap.size, 2, none⟩ (.string (u.extract p1.n.toNat p2.n.toNat))).setCell ⟨w.heap.size, 3, none⟩ (.int .i64 0)).setCell ⟨w.heap.size, 4, none⟩ (.int .i64 0))) at hxX
          generalize ((((((w5.setCell ⟨w.heap.size, 0, none⟩ (.int .i64 1)).setCell ⟨w.heap.size, 1, none⟩ (.int .i64 0)).setCell ⟨w.heap.size, 2, none⟩ (.string (u.extract p1.n.toNat p2.n.toNat))).setCell ⟨w.heap.size, 3, none⟩ (.int .i64 0)).setCell ⟨w.heap.size, 4, none⟩ (.int .i64 0))) = w9 at *
          have cX0 := hxX.blk.c 0 _ rfl
          have cX1 := hxX.blk.c 1 _ rfl
          have cX2 := hxX.blk.c 2 _ rfl
          have cX3 := hxX.blk.c 3 _ rfl
          have cX4 := hxX.blk.c 4 _ rfl
          refine bodyPost_ret (v := .tuple #[.agg #[.int .i64 1, .int .i64 0, .string (u.extract p1.n.toNat p2.n.toNat), .int .i64 0, .int .i64 0], .int .i64 0]) (by simp [results, Tryz.results50, go_sem, cX0, cX1, cX2, cX3, cX4]) rfl ⟨tv ((p0.s.take p2.n.toNat).drop p1.n.toNat), 0, S1, n1, ov1, by rw [HE.out]; rfl, by rw [HBD.out]; obtain ⟨rfl, rfl, rfl⟩ := HAA.out; exact Ans.ok (by rw [bnd_ok HXX.out]; exact cut_ok HC.out _ _) rfl, hd9, hm9⟩
set_option maxRecDepth 100000 in
set_option maxHeartbeats 2000000 in
theorem deed_words {d : Nat} (HD : DoC (ev d) d) : DeedC d 18 52 := by
  intro w0 A c E b l S n ov w k r hcx hd hg hkl ho hrn hx hd24
  have HBD : Hid (body (ev d) (nd l k) (l.drop (k + 1)) S n = bnd (prt (ev d) [1] (l.drop (k + 1))) (af 18) S n) := by show _ = _; exact congrFun (congrFun (body_prt ho (by decide) (by decide) (by decide) (by decide) (by decide) (by decide)) S) n
  have HP := Lib.hid (pre_any HD [1] (by decide) (by decide) (by decide) hcx hd hg hkl hx (by decide) hd24)
  clear hcx hd hg ho hrn hx hd24 HD
  go_enter Tryz.func52, Tryz.ntmps52
  go_wp2_with (fail)
  refine (HP.out).mono ?_
  rintro e w3 ⟨p0, p1, p2, x, S1, n1, ov1, rfl, ha, r0, r1, r2, hgd, hd3, hm3, hx3⟩
  have HA := Lib.hid ha; have R0 := Lib.hid r0; have R1 := Lib.hid r1; have R2 := Lib.hid r2; have HG := Lib.hid hgd; have HD3 := Lib.hid hd3; have HM3 := Lib.hid hm3; have HX3 := Lib.hid hx3
  have hlZ := hx3.blk.lt
  clear ha r0 r1 r2 hgd hd3 hm3 hx3 HP
  have h0 := (rt_all R0.out).2.1
  have HST := Lib.hid (stretch_any (tx p0.s) (by rw [tx_size]; omega))
  rw [tx_list] at HST
  have HS := Lib.hid (fun u (h : u.size ≤ 4096) => stretch_any u (by omega))
  go_wp2_with (fail)
  refine (HST.out _).mono ?_
  rintro e w4 ⟨rfl, hb⟩
  have HD4 := Lib.hid ((HD3.out.old (box1 _ (.cells #[.int .i64 p0.k, .int .i64 p0.n, .string (tx p0.s), .int .i64 p0.x, .int .i64 p0.y, .int .i64 p1.k, .int .i64 p1.n, .string (tx p1.s), .int .i64 p1.x, .int .i64 p1.y, .int .i64 p2.k, .int .i64 p2.n, .string (tx p2.s), .int .i64 p2.x, .int .i64 p2.y] 106))).old hb)
  have HM4 := Lib.hid ((HM3.out.old (box1 _ (.cells #[.int .i64 p0.k, .int .i64 p0.n, .string (tx p0.s), .int .i64 p0.x, .int .i64 p0.y, .int .i64 p1.k, .int .i64 p1.n, .string (tx p1.s), .int .i64 p1.x, .int .i64 p1.y, .int .i64 p2.k, .int .i64 p2.n, .string (tx p2.s), .int .i64 p2.x, .int .i64 p2.y] 106))).old hb)
  have HX4 := Lib.hid ((HX3.out.old (box1 _ (.cells #[.int .i64 p0.k, .int .i64 p0.n, .string (tx p0.s), .int .i64 p0.x, .int .i64 p0.y, .int .i64 p1.k, .int .i64 p1.n, .string (tx p1.s), .int .i64 p1.x, .int .i64 p1.y, .int .i64 p2.k, .int .i64 p2.n, .string (tx p2.s), .int .i64 p2.x, .int .i64 p2.y] 106))).old hb)
  have HP4 : Hid (Box w0 b E ov1 (w3.heap.size) [.int .i64 p0.k, .int .i64 p0.n, .string (tx p0.s), .int .i64 p0.x, .int .i64 p0.y, .int .i64 p1.k, .int .i64 p1.n, .string (tx p1.s), .int .i64 p1.x, .int .i64 p1.y, .int .i64 p2.k, .int .i64 p2.n, .string (tx p2.s), .int .i64 p2.x, .int .i64 p2.y] w4) := by
    have h := Box.made HD3.out (by omega) 106 [.int .i64 p0.k, .int .i64 p0.n, .string (tx p0.s), .int .i64 p0.x, .int .i64 p0.y, .int .i64 p1.k, .int .i64 p1.n, .string (tx p1.s), .int .i64 p1.x, .int .i64 p1.y, .int .i64 p2.k, .int .i64 p2.n, .string (tx p2.s), .int .i64 p2.x, .int .i64 p2.y]
    exact (h).old hb
  clear hb HD3 HM3 HX3  
  clear HST
  go_wp2_with (fail)
  go_loopw [8, 9, 10] (fun i u t wr => ∃ (j : Nat) (cur : List UInt8), i = .int .i64 (j : Int) ∧ u = .string (tx (st cur)) ∧ t = .string (tx (bh cur)) ∧ j + (wds cur).length = (wds p0.s).length ∧ j + cur.length ≤ 4096 ∧ Doer w0 A c E b l S1 n1 ov1 wr ∧ Mv b ov w ov1 wr ∧ Box w0 b E ov1 w.heap.size [.int .i64 0, .int .i64 0, .string ⟨#[]⟩, .int .i64 0, .int .i64 0] wr) (fun _ u t _ => strSz u + strSz t)
  case atStart => exact ⟨0, p0.s, rfl, rfl, rfl, by omega, by omega, HD4.out, HM4.out, HX4.out⟩
  case round =>
    clear HD4 HM4 HX4 HP4
    obtain ⟨j, cur, rfl, rfl, rfl, hw, hj, hd, hm, hx⟩ := hrel
    have HD5 := Lib.hid hd; have HM5 := Lib.hid hm; have HX5 := Lib.hid hx; have HW := Lib.hid hw
    clear hd hm hx hw
    have hlb := bh_le cur
    have hs1 := size_tx (st cur); have hs2 := size_tx (bh cur)
    by_cases hn : st cur = []
    · have HN := Lib.hid hn
      rw [hn]
      have he : (tx ([] : List UInt8)).toList.isEmpty = true := by rw [ByteArray.toList_eq, tx_list]; rfl
      have HJ : Hid (j = (wds p0.s).length) := by show _ = _; have := HW.out; rw [wds_nil hn] at this; simpa using this
      clear hn HW
      go_wp2_with (fail)
      refine (enumber_any _ _).mono ?_
      rintro e w6 ⟨rfl, hb⟩
      have HD6 := Lib.hid (HD5.out.old hb)
      have HM6 := Lib.hid (HM5.out.old hb)
      have HX6 := Lib.hid (HX5.out.old hb)
      clear hb HD5 HM5 HX5  
      have cX0 := HX6.out.blk.c 0 _ rfl; have zX0 := HX6.out.blk.f 0 _ rfl
      have cX1 := HX6.out.blk.c 1 _ rfl; have zX1 := HX6.out.blk.f 1 _ rfl
      have cX2 := HX6.out.blk.c 2 _ rfl; have zX2 := HX6.out.blk.f 2 _ rfl
      have cX3 := HX6.out.blk.c 3 _ rfl; have zX3 := HX6.out.blk.f 3 _ rfl
      have cX4 := HX6.out.blk.c 4 _ rfl; have zX4 := HX6.out.blk.f 4 _ rfl
      have hltX := HX6.out.blk.lt
      go_wp2_with (fail)
      have hd9 := (HD6.out.puts HX6.out 0 [.int .i64 0, .int .i64 ((j : Int)), .string ⟨#[]⟩, .int .i64 0, .int .i64 0])
      have hm9 := (Mv.puts (B := w.heap.size) HM6.out (by omega) 0 [.int .i64 0, .int .i64 ((j : Int)), .string ⟨#[]⟩, .int .i64 0, .int .i64 0])
      have hxX := (Box.puts (HX6.out) [.int .i64 0, .int .i64 ((j : Int)), .string ⟨#[]⟩, .int .i64 0, .int .i64 0] rfl)
      clear cX0 zX0 cX1 zX1 cX2 zX2 cX3 zX3 cX4 zX4 HD6 HM6 HX6 
      change bodyPost _ _ _ _ _ (((((w6.setCell ⟨w.heap.size, 0, none⟩ (.int .i64 0)).setCell ⟨w.heap.size, 1, none⟩ (.int .i64 ((j : Int)))).setCell ⟨w.heap.size, 2, none⟩ (.string ⟨#[]⟩)).setCell ⟨w.heap.size, 3, none⟩ (.int .i64 0)).setCell ⟨w.heap.size, 4, none⟩ (.int .i64 0))
      change Doer _ _ _ _ _ _ _ _ _ ((((((w6.setCell ⟨w.heap.size, 0, none⟩ (.int .i64 0)).setCell ⟨w.heap.size, 1, none⟩ (.int .i64 ((j : Int)))).setCell ⟨w.heap.size, 2, none⟩ (.string ⟨#[]⟩)).setCell ⟨w.heap.size, 3, none⟩ (.int .i64 0)).setCell ⟨w.heap.size, 4, none⟩ (.int .i64 0))) at hd9
      change Mv _ _ _ _ ((((((w6.setCell ⟨w.heap.size, 0, none⟩ (.int .i64 0)).setCell ⟨w.heap.size, 1, none⟩ (.int .i64 ((j : Int)))).setCell ⟨w.heap.size, 2, none⟩ (.string ⟨#[]⟩)).setCell ⟨w.heap.size, 3, none⟩ (.int .i64 0)).setCell ⟨w.heap.size, 4, none⟩ (.int .i64 0))) at hm9
      change Box _ _ _ _ _ _ ((((((w6.setCell ⟨w.heap.size, 0, none⟩ (.int .i64 0)).setCell ⟨w.heap.size, 1, none⟩ (.int .i64 ((j : Int)))).setCell ⟨w.heap.size, 2, none⟩ (.string ⟨#[]⟩)).setCell ⟨w.heap.size, 3, none⟩ (.int .i64 0)).setCell ⟨w.heap.size, 4, none⟩ (.int .i64 0))) at hxX
      generalize ((((((w6.setCell ⟨w.heap.size, 0, none⟩ (.int .i64 0)).setCell ⟨w.heap.size, 1, none⟩ (.int .i64 ((j : Int)))).setCell ⟨w.heap.size, 2, none⟩ (.string ⟨#[]⟩)).setCell ⟨w.heap.size, 3, none⟩ (.int .i64 0)).setCell ⟨w.heap.size, 4, none⟩ (.int .i64 0))) = w9 at *
      have cX0 := hxX.blk.c 0 _ rfl
      have cX1 := hxX.blk.c 1 _ rfl
      have cX2 := hxX.blk.c 2 _ rfl
      have cX3 := hxX.blk.c 3 _ rfl
      have cX4 := hxX.blk.c 4 _ rfl
      refine bodyPost_ret (v := .tuple #[.agg #[.int .i64 0, .int .i64 ((j : Int)), .string ⟨#[]⟩, .int .i64 0, .int .i64 0], .int .i64 x]) (by simp [results, Tryz.results52, go_sem, cX0, cX1, cX2, cX3, cX4]) rfl ⟨nv j, x, S1, n1, ov1, rfl, by rw [HBD.out]; exact HA.out.bnd fun h0 a ha _ => by obtain ⟨rfl, rfl, rfl⟩ := ha; exact ⟨_, rfl, by rw [HJ.out]⟩, hd9, hm9⟩
    · skip
      have hpos : 0 < (st cur).length := List.length_pos_iff.2 hn
      obtain ⟨u, hu⟩ : ∃ u, tx (st cur) = u := ⟨_, rfl⟩
      rw [hu] at hs1 ⊢
      have he : u.toList.isEmpty = false := by simpa using Va.full_of (s := u) (by omega)
      have HR : Hid (j + 1 + (wds (bh cur)).length = (wds p0.s).length) := by show _ = _; have := HW.out; rw [wds_cons hn, List.length_cons] at this; omega
      have HSS := Lib.hid (HS.out (tx (bh cur)) (by omega))
      rw [tx_list] at HSS
      clear hu hn HW
      go_wp2_with (fail)
      refine (HSS.out _).mono ?_
      rintro e w6 ⟨rfl, hb⟩
      have HD6 := Lib.hid (HD5.out.old hb)
      have HM6 := Lib.hid (HM5.out.old hb)
      have HX6 := Lib.hid (HX5.out.old hb)
      clear hb HD5 HM5 HX5  
      have hl2 := bh_le (bh cur)
      have hs3 := size_tx (st (bh cur)); have hs4 := size_tx (bh (bh cur))
      go_wp2_with (fail)
      go_roundw
      case rel => exact ⟨j + 1, bh cur, by go_num, rfl, rfl, HR.out, by omega, HD6.out, HM6.out, HX6.out⟩
      case measure => simp [strSz]; omega
set_option maxRecDepth 100000 in
set_option maxHeartbeats 2000000 in
theorem deed_word {d : Nat} (HD : DoC (ev d) d) : DeedC d 17 51 := by
  intro w0 A c E b l S n ov w k r hcx hd hg hkl ho hrn hx hd24
  have HBD : Hid (body (ev d) (nd l k) (l.drop (k + 1)) S n = bnd (prt (ev d) [1, 0] (l.drop (k + 1))) (af 17) S n) := by show _ = _; exact congrFun (congrFun (body_prt ho (by decide) (by decide) (by decide) (by decide) (by decide) (by decide)) S) n
  have HP := Lib.hid (pre_any HD [1, 0] (by decide) (by decide) (by decide) hcx hd hg hkl hx (by decide) hd24)
  clear hcx hd hg ho hrn hx hd24 HD
  go_enter Tryz.func51, Tryz.ntmps51
  go_wp2_with (fail)
  refine (HP.out).mono ?_
  rintro e w3 ⟨p0, p1, p2, x, S1, n1, ov1, rfl, ha, r0, r1, r2, hgd, hd3, hm3, hx3⟩
  have HA := Lib.hid ha; have R0 := Lib.hid r0; have R1 := Lib.hid r1; have R2 := Lib.hid r2; have HG := Lib.hid hgd; have HD3 := Lib.hid hd3; have HM3 := Lib.hid hm3; have HX3 := Lib.hid hx3
  have hlZ := hx3.blk.lt
  clear ha r0 r1 r2 hgd hd3 hm3 hx3 HP
  rcases HA.out.cases with ⟨hx0, hX⟩ | ⟨rfl, a, ha, hX⟩
  · have HX0 := Lib.hid hx0; have HXX := Lib.hid hX
    have hx1 : (x == 0) = false := by simpa using hx0
    have hx2 : (x != 0) = true := by simpa using hx0
    clear hx0 hX HA
    have cX0 := HX3.out.blk.c 0 _ rfl; have zX0 := HX3.out.blk.f 0 _ rfl
    have cX1 := HX3.out.blk.c 1 _ rfl; have zX1 := HX3.out.blk.f 1 _ rfl
    have cX2 := HX3.out.blk.c 2 _ rfl; have zX2 := HX3.out.blk.f 2 _ rfl
    have cX3 := HX3.out.blk.c 3 _ rfl; have zX3 := HX3.out.blk.f 3 _ rfl
    have cX4 := HX3.out.blk.c 4 _ rfl; have zX4 := HX3.out.blk.f 4 _ rfl
    have hltX := HX3.out.blk.lt
    go_wp2_with (fail)
    have hd9 := ((HD3.out.puts HX3.out 0 [.int .i64 0, .int .i64 0, .string ⟨#[]⟩, .int .i64 0, .int .i64 0]).old (box1 _ (.cells #[.int .i64 p0.k, .int .i64 p0.n, .string (tx p0.s), .int .i64 p0.x, .int .i64 p0.y, .int .i64 p1.k, .int .i64 p1.n, .string (tx p1.s), .int .i64 p1.x, .int .i64 p1.y, .int .i64 p2.k, .int .i64 p2.n, .string (tx p2.s), .int .i64 p2.x, .int .i64 p2.y] 106)))
    have hm9 := ((Mv.puts (B := w.heap.size) HM3.out (by omega) 0 [.int .i64 0, .int .i64 0, .string ⟨#[]⟩, .int .i64 0, .int .i64 0]).old (box1 _ (.cells #[.int .i64 p0.k, .int .i64 p0.n, .string (tx p0.s), .int .i64 p0.x, .int .i64 p0.y, .int .i64 p1.k, .int .i64 p1.n, .string (tx p1.s), .int .i64 p1.x, .int .i64 p1.y, .int .i64 p2.k, .int .i64 p2.n, .string (tx p2.s), .int .i64 p2.x, .int .i64 p2.y] 106)))
    have hxX := ((Box.puts (HX3.out) [.int .i64 0, .int .i64 0, .string ⟨#[]⟩, .int .i64 0, .int .i64 0] rfl).old (box1 _ (.cells #[.int .i64 p0.k, .int .i64 p0.n, .string (tx p0.s), .int .i64 p0.x, .int .i64 p0.y, .int .i64 p1.k, .int .i64 p1.n, .string (tx p1.s), .int .i64 p1.x, .int .i64 p1.y, .int .i64 p2.k, .int .i64 p2.n, .string (tx p2.s), .int .i64 p2.x, .int .i64 p2.y] 106)))
    clear cX0 zX0 cX1 zX1 cX2 zX2 cX3 zX3 cX4 zX4 HD3 HM3 HX3 
    change bodyPost _ _ _ _ _ ((((((w3.setCell ⟨w.heap.size, 0, none⟩ (.int .i64 0)).setCell ⟨w.heap.size, 1, none⟩ (.int .i64 0)).setCell ⟨w.heap.size, 2, none⟩ (.string ⟨#[]⟩)).setCell ⟨w.heap.size, 3, none⟩ (.int .i64 0)).setCell ⟨w.heap.size, 4, none⟩ (.int .i64 0)).alloc (.cells #[.int .i64 p0.k, .int .i64 p0.n, .string (tx p0.s), .int .i64 p0.x, .int .i64 p0.y, .int .i64 p1.k, .int .i64 p1.n, .string (tx p1.s), .int .i64 p1.x, .int .i64 p1.y, .int .i64 p2.k, .int .i64 p2.n, .string (tx p2.s), .int .i64 p2.x, .int .i64 p2.y] 106))
    change Doer _ _ _ _ _ _ _ _ _ (((((((w3.setCell ⟨w.heap.size, 0, none⟩ (.int .i64 0)).setCell ⟨w.heap.size, 1, none⟩ (.int .i64 0)).setCell ⟨w.heap.size, 2, none⟩ (.string ⟨#[]⟩)).setCell ⟨w.heap.size, 3, none⟩ (.int .i64 0)).setCell ⟨w.heap.size, 4, none⟩ (.int .i64 0)).alloc (.cells #[.int .i64 p0.k, .int .i64 p0.n, .string (tx p0.s), .int .i64 p0.x, .int .i64 p0.y, .int .i64 p1.k, .int .i64 p1.n, .string (tx p1.s), .int .i64 p1.x, .int .i64 p1.y, .int .i64 p2.k, .int .i64 p2.n, .string (tx p2.s), .int .i64 p2.x, .int .i64 p2.y] 106))) at hd9
    change Mv _ _ _ _ (((((((w3.setCell ⟨w.heap.size, 0, none⟩ (.int .i64 0)).setCell ⟨w.heap.size, 1, none⟩ (.int .i64 0)).setCell ⟨w.heap.size, 2, none⟩ (.string ⟨#[]⟩)).setCell ⟨w.heap.size, 3, none⟩ (.int .i64 0)).setCell ⟨w.heap.size, 4, none⟩ (.int .i64 0)).alloc (.cells #[.int .i64 p0.k, .int .i64 p0.n, .string (tx p0.s), .int .i64 p0.x, .int .i64 p0.y, .int .i64 p1.k, .int .i64 p1.n, .string (tx p1.s), .int .i64 p1.x, .int .i64 p1.y, .int .i64 p2.k, .int .i64 p2.n, .string (tx p2.s), .int .i64 p2.x, .int .i64 p2.y] 106))) at hm9
    change Box _ _ _ _ _ _ (((((((w3.setCell ⟨w.heap.size, 0, none⟩ (.int .i64 0)).setCell ⟨w.heap.size, 1, none⟩ (.int .i64 0)).setCell ⟨w.heap.size, 2, none⟩ (.string ⟨#[]⟩)).setCell ⟨w.heap.size, 3, none⟩ (.int .i64 0)).setCell ⟨w.heap.size, 4, none⟩ (.int .i64 0)).alloc (.cells #[.int .i64 p0.k, .int .i64 p0.n, .string (tx p0.s), .int .i64 p0.x, .int .i64 p0.y, .int .i64 p1.k, .int .i64 p1.n, .string (tx p1.s), .int .i64 p1.x, .int .i64 p1.y, .int .i64 p2.k, .int .i64 p2.n, .string (tx p2.s), .int .i64 p2.x, .int .i64 p2.y] 106))) at hxX
    generalize (((((((w3.setCell ⟨w.heap.size, 0, none⟩ (.int .i64 0)).setCell ⟨w.heap.size, 1, none⟩ (.int .i64 0)).setCell ⟨w.heap.size, 2, none⟩ (.string ⟨#[]⟩)).setCell ⟨w.heap.size, 3, none⟩ (.int .i64 0)).setCell ⟨w.heap.size, 4, none⟩ (.int .i64 0)).alloc (.cells #[.int .i64 p0.k, .int .i64 p0.n, .string (tx p0.s), .int .i64 p0.x, .int .i64 p0.y, .int .i64 p1.k, .int .i64 p1.n, .string (tx p1.s), .int .i64 p1.x, .int .i64 p1.y, .int .i64 p2.k, .int .i64 p2.n, .string (tx p2.s), .int .i64 p2.x, .int .i64 p2.y] 106))) = w9 at *
    have cX0 := hxX.blk.c 0 _ rfl
    have cX1 := hxX.blk.c 1 _ rfl
    have cX2 := hxX.blk.c 2 _ rfl
    have cX3 := hxX.blk.c 3 _ rfl
    have cX4 := hxX.blk.c 4 _ rfl
    refine bodyPost_ret (v := .tuple #[.agg #[.int .i64 0, .int .i64 0, .string ⟨#[]⟩, .int .i64 0, .int .i64 0], .int .i64 x]) (by simp [results, Tryz.results51, go_sem, cX0, cX1, cX2, cX3, cX4]) rfl ⟨vz, x, S1, n1, ov1, rfl, by rw [HBD.out]; exact Ans.er (bnd_er HXX.out) rfl HX0.out, hd9, hm9⟩
  · have HXX := Lib.hid hX; have HAA := Lib.hid ha; have HGD := Lib.hid (HG.out rfl)
    clear hX ha HA HG
    have h0 := (rt_all R0.out).2.1; have h1 := (rt_all R1.out).1
    obtain ⟨h11, h12⟩ := h1
    have HST := Lib.hid (stretch_any (tx p0.s) (by rw [tx_size]; omega))
    rw [tx_list] at HST
    have HS := Lib.hid (fun u (h : u.size ≤ 4096) => stretch_any u (by omega))
    go_wp2_with (fail)
    refine (HST.out _).mono ?_
    rintro e w4 ⟨rfl, hb⟩
    have HD4 := Lib.hid ((HD3.out.old (box1 _ (.cells #[.int .i64 p0.k, .int .i64 p0.n, .string (tx p0.s), .int .i64 p0.x, .int .i64 p0.y, .int .i64 p1.k, .int .i64 p1.n, .string (tx p1.s), .int .i64 p1.x, .int .i64 p1.y, .int .i64 p2.k, .int .i64 p2.n, .string (tx p2.s), .int .i64 p2.x, .int .i64 p2.y] 106))).old hb)
    have HM4 := Lib.hid ((HM3.out.old (box1 _ (.cells #[.int .i64 p0.k, .int .i64 p0.n, .string (tx p0.s), .int .i64 p0.x, .int .i64 p0.y, .int .i64 p1.k, .int .i64 p1.n, .string (tx p1.s), .int .i64 p1.x, .int .i64 p1.y, .int .i64 p2.k, .int .i64 p2.n, .string (tx p2.s), .int .i64 p2.x, .int .i64 p2.y] 106))).old hb)
    have HX4 := Lib.hid ((HX3.out.old (box1 _ (.cells #[.int .i64 p0.k, .int .i64 p0.n, .string (tx p0.s), .int .i64 p0.x, .int .i64 p0.y, .int .i64 p1.k, .int .i64 p1.n, .string (tx p1.s), .int .i64 p1.x, .int .i64 p1.y, .int .i64 p2.k, .int .i64 p2.n, .string (tx p2.s), .int .i64 p2.x, .int .i64 p2.y] 106))).old hb)
    have HP4 : Hid (Box w0 b E ov1 (w3.heap.size) [.int .i64 p0.k, .int .i64 p0.n, .string (tx p0.s), .int .i64 p0.x, .int .i64 p0.y, .int .i64 p1.k, .int .i64 p1.n, .string (tx p1.s), .int .i64 p1.x, .int .i64 p1.y, .int .i64 p2.k, .int .i64 p2.n, .string (tx p2.s), .int .i64 p2.x, .int .i64 p2.y] w4) := by
      have h := Box.made HD3.out (by omega) 106 [.int .i64 p0.k, .int .i64 p0.n, .string (tx p0.s), .int .i64 p0.x, .int .i64 p0.y, .int .i64 p1.k, .int .i64 p1.n, .string (tx p1.s), .int .i64 p1.x, .int .i64 p1.y, .int .i64 p2.k, .int .i64 p2.n, .string (tx p2.s), .int .i64 p2.x, .int .i64 p2.y]
      exact (h).old hb
    clear hb HD3 HM3 HX3  
    clear HST
    go_wp2_with (fail)
    go_loopw [8, 9, 10] (fun i u t wr => ∃ (y : Int) (cur : List UInt8), i = .int .i64 y ∧ u = .string (tx (st cur)) ∧ t = .string (tx (bh cur)) ∧ wdN p0.s p1.n = wdN cur y ∧ cur.length ≤ 4096 ∧ p1.n - (4096 - cur.length) ≤ y ∧ y ≤ p1.n ∧ Doer w0 A c E b l S1 n1 ov1 wr ∧ Mv b ov w ov1 wr ∧ Box w0 b E ov1 w.heap.size [.int .i64 0, .int .i64 0, .string ⟨#[]⟩, .int .i64 0, .int .i64 0] wr) (fun _ u t _ => strSz u + strSz t)
    case atStart => exact ⟨p1.n, p0.s, rfl, rfl, rfl, rfl, h0, by omega, by omega, HD4.out, HM4.out, HX4.out⟩
    case round =>
      clear HD4 HM4 HX4 HP4
      obtain ⟨y, cur, rfl, rfl, rfl, hw, hj, hy1, hy2, hd, hm, hx⟩ := hrel
      have HD5 := Lib.hid hd; have HM5 := Lib.hid hm; have HX5 := Lib.hid hx; have HW := Lib.hid hw
      clear hd hm hx hw
      have hlb := bh_le cur
      have hs1 := size_tx (st cur); have hs2 := size_tx (bh cur)
      by_cases hn : st cur = []
      · have HJ : Hid (wdN p0.s p1.n = .inl 14) := by show _ = _; rw [HW.out, wdN_nil hn]
        rw [hn]
        have he : (tx ([] : List UInt8)).toList.isEmpty = true := by rw [ByteArray.toList_eq, tx_list]; rfl
        clear hn HW
        generalize wr = w5 at *
        have cX0 := HX5.out.blk.c 0 _ rfl; have zX0 := HX5.out.blk.f 0 _ rfl
        have cX1 := HX5.out.blk.c 1 _ rfl; have zX1 := HX5.out.blk.f 1 _ rfl
        have cX2 := HX5.out.blk.c 2 _ rfl; have zX2 := HX5.out.blk.f 2 _ rfl
        have cX3 := HX5.out.blk.c 3 _ rfl; have zX3 := HX5.out.blk.f 3 _ rfl
        have cX4 := HX5.out.blk.c 4 _ rfl; have zX4 := HX5.out.blk.f 4 _ rfl
        have hltX := HX5.out.blk.lt
        go_wp2_with (fail)
        have hd9 := (HD5.out.puts HX5.out 0 [.int .i64 0, .int .i64 0, .string ⟨#[]⟩, .int .i64 0, .int .i64 0])
        have hm9 := (Mv.puts (B := w.heap.size) HM5.out (by omega) 0 [.int .i64 0, .int .i64 0, .string ⟨#[]⟩, .int .i64 0, .int .i64 0])
        have hxX := (Box.puts (HX5.out) [.int .i64 0, .int .i64 0, .string ⟨#[]⟩, .int .i64 0, .int .i64 0] rfl)
        clear cX0 zX0 cX1 zX1 cX2 zX2 cX3 zX3 cX4 zX4 HD5 HM5 HX5 
        change bodyPost _ _ _ _ _ (((((w5.setCell ⟨w.heap.size, 0, none⟩ (.int .i64 0)).setCell ⟨w.heap.size, 1, none⟩ (.int .i64 0)).setCell ⟨w.heap.size, 2, none⟩ (.string ⟨#[]⟩)).setCell ⟨w.heap.size, 3, none⟩ (.int .i64 0)).setCell ⟨w.heap.size, 4, none⟩ (.int .i64 0))
        change Doer _ _ _ _ _ _ _ _ _ ((((((w5.setCell ⟨w.heap.size, 0, none⟩ (.int .i64 0)).setCell ⟨w.heap.size, 1, none⟩ (.int .i64 0)).setCell ⟨w.heap.size, 2, none⟩ (.string ⟨#[]⟩)).setCell ⟨w.heap.size, 3, none⟩ (.int .i64 0)).setCell ⟨w.heap.size, 4, none⟩ (.int .i64 0))) at hd9
        change Mv _ _ _ _ ((((((w5.setCell ⟨w.heap.size, 0, none⟩ (.int .i64 0)).setCell ⟨w.heap.size, 1, none⟩ (.int .i64 0)).setCell ⟨w.heap.size, 2, none⟩ (.string ⟨#[]⟩)).setCell ⟨w.heap.size, 3, none⟩ (.int .i64 0)).setCell ⟨w.heap.size, 4, none⟩ (.int .i64 0))) at hm9
        change Box _ _ _ _ _ _ ((((((w5.setCell ⟨w.heap.size, 0, none⟩ (.int .i64 0)).setCell ⟨w.heap.size, 1, none⟩ (.int .i64 0)).setCell ⟨w.heap.size, 2, none⟩ (.string ⟨#[]⟩)).setCell ⟨w.heap.size, 3, none⟩ (.int .i64 0)).setCell ⟨w.heap.size, 4, none⟩ (.int .i64 0))) at hxX
        generalize ((((((w5.setCell ⟨w.heap.size, 0, none⟩ (.int .i64 0)).setCell ⟨w.heap.size, 1, none⟩ (.int .i64 0)).setCell ⟨w.heap.size, 2, none⟩ (.string ⟨#[]⟩)).setCell ⟨w.heap.size, 3, none⟩ (.int .i64 0)).setCell ⟨w.heap.size, 4, none⟩ (.int .i64 0))) = w9 at *
        have cX0 := hxX.blk.c 0 _ rfl
        have cX1 := hxX.blk.c 1 _ rfl
        have cX2 := hxX.blk.c 2 _ rfl
        have cX3 := hxX.blk.c 3 _ rfl
        have cX4 := hxX.blk.c 4 _ rfl
        refine bodyPost_ret (v := .tuple #[.agg #[.int .i64 0, .int .i64 0, .string ⟨#[]⟩, .int .i64 0, .int .i64 0], .int .i64 14]) (by simp [results, Tryz.results51, go_sem, cX0, cX1, cX2, cX3, cX4]) rfl ⟨vz, 14, S1, n1, ov1, rfl, by rw [HBD.out]; obtain ⟨rfl, rfl, rfl⟩ := HAA.out; exact Ans.er (by rw [bnd_ok HXX.out]; exact (by rw [word_af, HJ.out]; rfl)) rfl (by decide), hd9, hm9⟩
      · skip
        have hpos : 0 < (st cur).length := List.length_pos_iff.2 hn
        obtain ⟨u, hu⟩ : ∃ u, tx (st cur) = u := ⟨_, rfl⟩
        rw [hu] at hs1 ⊢
        have HU := Lib.hid hu
        have he : u.toList.isEmpty = false := by simpa using Va.full_of (s := u) (by omega)
        clear hu
        by_cases hz : y = 0
        · subst hz
          have HJ : Hid (wdN p0.s p1.n = .inr (tv (st cur))) := by show _ = _; rw [HW.out, wdN_zero hn]
          clear hn HW
          go_wp2_with (fail)
          refine (etext_any _ _).mono ?_
          rintro e w6 ⟨rfl, hb⟩
          have HD6 := Lib.hid (HD5.out.old hb)
          have HM6 := Lib.hid (HM5.out.old hb)
          have HX6 := Lib.hid (HX5.out.old hb)
          clear hb HD5 HM5 HX5  
          have cX0 := HX6.out.blk.c 0 _ rfl; have zX0 := HX6.out.blk.f 0 _ rfl
          have cX1 := HX6.out.blk.c 1 _ rfl; have zX1 := HX6.out.blk.f 1 _ rfl
          have cX2 := HX6.out.blk.c 2 _ rfl; have zX2 := HX6.out.blk.f 2 _ rfl
          have cX3 := HX6.out.blk.c 3 _ rfl; have zX3 := HX6.out.blk.f 3 _ rfl
          have cX4 := HX6.out.blk.c 4 _ rfl; have zX4 := HX6.out.blk.f 4 _ rfl
          have hltX := HX6.out.blk.lt
          go_wp2_with (fail)
          have hd9 := (HD6.out.puts HX6.out 0 [.int .i64 1, .int .i64 0, .string (u), .int .i64 0, .int .i64 0])
          have hm9 := (Mv.puts (B := w.heap.size) HM6.out (by omega) 0 [.int .i64 1, .int .i64 0, .string (u), .int .i64 0, .int .i64 0])
          have hxX := (Box.puts (HX6.out) [.int .i64 1, .int .i64 0, .string (u), .int .i64 0, .int .i64 0] rfl)
          clear cX0 zX0 cX1 zX1 cX2 zX2 cX3 zX3 cX4 zX4 HD6 HM6 HX6 
          change bodyPost _ _ _ _ _ (((((w6.setCell ⟨w.heap.size, 0, none⟩ (.int .i64 1)).setCell ⟨w.heap.size, 1, none⟩ (.int .i64 0)).setCell ⟨w.heap.size, 2, none⟩ (.string (u))).setCell ⟨w.heap.size, 3, none⟩ (.int .i64 0)).setCell ⟨w.heap.size, 4, none⟩ (.int .i64 0))
          change Doer _ _ _ _ _ _ _ _ _ ((((((w6.setCell ⟨w.heap.size, 0, none⟩ (.int .i64 1)).setCell ⟨w.heap.size, 1, none⟩ (.int .i64 0)).setCell ⟨w.heap.size, 2, none⟩ (.string (u))).setCell ⟨w.heap.size, 3, none⟩ (.int .i64 0)).setCell ⟨w.heap.size, 4, none⟩ (.int .i64 0))) at hd9
          change Mv _ _ _ _ ((((((w6.setCell ⟨w.heap.size, 0, none⟩ (.int .i64 1)).setCell ⟨w.heap.size, 1, none⟩ (.int .i64 0)).setCell ⟨w.heap.size, 2, none⟩ (.string (u))).setCell ⟨w.heap.size, 3, none⟩ (.int .i64 0)).setCell ⟨w.heap.size, 4, none⟩ (.int .i64 0))) at hm9
          change Box _ _ _ _ _ _ ((((((w6.setCell ⟨w.heap.size, 0, none⟩ (.int .i64 1)).setCell ⟨w.heap.size, 1, none⟩ (.int .i64 0)).setCell ⟨w.heap.size, 2, none⟩ (.string (u))).setCell ⟨w.heap.size, 3, none⟩ (.int .i64 0)).setCell ⟨w.heap.size, 4, none⟩ (.int .i64 0))) at hxX
          generalize ((((((w6.setCell ⟨w.heap.size, 0, none⟩ (.int .i64 1)).setCell ⟨w.heap.size, 1, none⟩ (.int .i64 0)).setCell ⟨w.heap.size, 2, none⟩ (.string (u))).setCell ⟨w.heap.size, 3, none⟩ (.int .i64 0)).setCell ⟨w.heap.size, 4, none⟩ (.int .i64 0))) = w9 at *
          have cX0 := hxX.blk.c 0 _ rfl
          have cX1 := hxX.blk.c 1 _ rfl
          have cX2 := hxX.blk.c 2 _ rfl
          have cX3 := hxX.blk.c 3 _ rfl
          have cX4 := hxX.blk.c 4 _ rfl
          refine bodyPost_ret (v := .tuple #[.agg #[.int .i64 1, .int .i64 0, .string (u), .int .i64 0, .int .i64 0], .int .i64 0]) (by simp [results, Tryz.results51, go_sem, cX0, cX1, cX2, cX3, cX4]) rfl ⟨tv (st cur), 0, S1, n1, ov1, by rw [← HU.out]; rfl, by rw [HBD.out]; obtain ⟨rfl, rfl, rfl⟩ := HAA.out; exact Ans.ok (by rw [bnd_ok HXX.out]; exact (by rw [word_af, HJ.out]; rfl)) rfl, hd9, hm9⟩
        · have hz1 : (y == 0) = false := by simpa using hz
          have HR : Hid (wdN p0.s p1.n = wdN (bh cur) (y - 1)) := by show _ = _; rw [HW.out, wdN_more hn hz]
          have HSS := Lib.hid (HS.out (tx (bh cur)) (by omega))
          rw [tx_list] at HSS
          clear hn HW hz HU
          go_wp2_with (fail)
          refine (HSS.out _).mono ?_
          rintro e w6 ⟨rfl, hb⟩
          have HD6 := Lib.hid (HD5.out.old hb)
          have HM6 := Lib.hid (HM5.out.old hb)
          have HX6 := Lib.hid (HX5.out.old hb)
          clear hb HD5 HM5 HX5  
          have hl2 := bh_le (bh cur)
          have hs3 := size_tx (st (bh cur)); have hs4 := size_tx (bh (bh cur))
          go_wp2_with (fail)
          go_roundw
          case rel => exact ⟨y - 1, bh cur, by go_num, rfl, rfl, HR.out, by omega, by omega, by omega, HD6.out, HM6.out, HX6.out⟩
          case measure => simp [strSz]; omega
end Go.Proofs.YtcdjincaedpodaaGreatDoor.Ev
/-
  The doer's small calls: the place of a second part; letting a value stand for a name; a value of its own memory.
-/
namespace Go.Proofs.YtcdjincaedpodaaGreatDoor.Ev
open Go.ChangeShapes Go.WideShapes Go.ChangeAt Go.RowKit Go.Proofs.YtcdjincaedpodaaGreatDoor.Ov Go.Proofs.YtcdjincaedpodaaGreatDoor.Va Go.Proofs.YtcdjincaedpodaaGreatDoor.Ex

theorem second_any {w0 : World} {A : Option Addr} {c E b n : Nat} {l : List No} {S : St} {ov : Value} (w : World) (k : Nat) (hd : Doer w0 A c E b l S n ov w) (hk : k + 1 < l.length) (hl : l.length ≤ 400) :
    Calls Tryz.prog 97 #[.pointer (some ⟨b, 0, none⟩), .int .i64 (k : Int)] w (Gives (.int .i64 ((l.length - (nx (l.drop (k + 1))).length : Nat) : Int)) w) := by
  have e1 := hd.blk.c 1 _ rfl
  have e2 := hd.beh (k + 1) hk
  generalize l.length - (nx (l.drop (k + 1))).length = y at *
  clear hd
  go_enter Tryz.func97, Tryz.ntmps97
  go_wp2_with (fail)
  go_ret
  exact ⟨rfl, Below.refl _ _⟩
/-- What stand leaves. -/
def Std (w0 : World) (A : Option Addr) (c E b : Nat) (l : List No) (S : St) (n : Nat) (ov : Value) (w : World) (e : Ending) (w' : World) : Prop :=
  e = .returned (.tuple #[]) ∧ Doer w0 A c E b l S n ov w' ∧ Mv b ov w ov w'
set_option maxRecDepth 100000 in
theorem stand3_any {w0 : World} {A : Option Addr} {c E b n : Nat} {l : List No} {S : St} {ov : Value} (w : World) (i : Int) (hd : Doer w0 A c E b l S n ov w) :
    Calls Tryz.prog 103 #[.pointer (some ⟨b, 0, none⟩), .int .i64 3, .agg #[.int .i64 0, .int .i64 i, .string ⟨#[]⟩, .int .i64 0, .int .i64 0]] w (Std w0 A c E b l { S with i := i } n ov w) := by
  have hd1 := ((hd.put5b (S' := { S with i := i }) (n' := n) 47 (.int .i64 0) (.int .i64 i) (.string ⟨#[]⟩) (.int .i64 0) (.int .i64 0) rfl rfl).old (box1 _ (.cells #[.int .i64 0, .int .i64 i, .string ⟨#[]⟩, .int .i64 0, .int .i64 0] 26))).drew
  have hm1 := (((((((Mv.refl : Mv b ov w ov w).putb 47 (.int .i64 0)).putb 48 (.int .i64 i)).putb 49 (.string ⟨#[]⟩)).putb 50 (.int .i64 0)).putb 51 (.int .i64 0)).old (box1 _ (.cells #[.int .i64 0, .int .i64 i, .string ⟨#[]⟩, .int .i64 0, .int .i64 0] 26))).old (Below.refl _ _).drew
  have HD := Lib.hid hd1; have HM := Lib.hid hm1
  have hlt := hd.blk.lt
  have c0 := hd.blk.c 47 _ rfl; have c1 := hd.blk.c 48 _ rfl; have c2 := hd.blk.c 49 _ rfl; have c3 := hd.blk.c 50 _ rfl; have c4 := hd.blk.c 51 _ rfl
  have z0 := hd.blk.f 47 _ rfl; have z1 := hd.blk.f 48 _ rfl; have z2 := hd.blk.f 49 _ rfl; have z3 := hd.blk.f 50 _ rfl; have z4 := hd.blk.f 51 _ rfl
  clear hd hd1 hm1
  go_enter Tryz.func103, Tryz.ntmps103
  go_wp2_with (fail)
  go_region
  go_end0
  exact ⟨rfl, HD.out, HM.out⟩
set_option maxRecDepth 100000 in
theorem stand3_def {w0 : World} {A : Option Addr} {c E b n : Nat} {l : List No} {S : St} {ov : Value} (w : World) (i : Int) (hd : Doer w0 A c E b l S n ov w) (u : FrameMode) :
    CallsD Tryz.prog 103 #[.pointer (some ⟨b, 0, none⟩), .int .i64 3, .agg #[.int .i64 0, .int .i64 i, .string ⟨#[]⟩, .int .i64 0, .int .i64 0]] u w (fun e u' w' => u' = u ∧ Std w0 A c E b l { S with i := i } n ov w e w') := by
  have hd1 := ((hd.put5b (S' := { S with i := i }) (n' := n) 47 (.int .i64 0) (.int .i64 i) (.string ⟨#[]⟩) (.int .i64 0) (.int .i64 0) rfl rfl).old (box1 _ (.cells #[.int .i64 0, .int .i64 i, .string ⟨#[]⟩, .int .i64 0, .int .i64 0] 26))).drew
  have hm1 := (((((((Mv.refl : Mv b ov w ov w).putb 47 (.int .i64 0)).putb 48 (.int .i64 i)).putb 49 (.string ⟨#[]⟩)).putb 50 (.int .i64 0)).putb 51 (.int .i64 0)).old (box1 _ (.cells #[.int .i64 0, .int .i64 i, .string ⟨#[]⟩, .int .i64 0, .int .i64 0] 26))).old (Below.refl _ _).drew
  have HD := Lib.hid hd1; have HM := Lib.hid hm1
  have hlt := hd.blk.lt
  have c0 := hd.blk.c 47 _ rfl; have c1 := hd.blk.c 48 _ rfl; have c2 := hd.blk.c 49 _ rfl; have c3 := hd.blk.c 50 _ rfl; have c4 := hd.blk.c 51 _ rfl
  have z0 := hd.blk.f 47 _ rfl; have z1 := hd.blk.f 48 _ rfl; have z2 := hd.blk.f 49 _ rfl; have z3 := hd.blk.f 50 _ rfl; have z4 := hd.blk.f 51 _ rfl
  clear hd hd1 hm1
  go_enter_d Tryz.func103, Tryz.ntmps103
  go_wp2_with (fail)
  go_region
  go_end0
  exact ⟨rfl, HD.out, HM.out⟩
set_option maxRecDepth 100000 in
theorem stand4_any {w0 : World} {A : Option Addr} {c E b n : Nat} {l : List No} {S : St} {ov : Value} (w : World) (v : Va) (hd : Doer w0 A c E b l S n ov w) :
    Calls Tryz.prog 103 #[.pointer (some ⟨b, 0, none⟩), .int .i64 4, .agg #[.int .i64 v.k, .int .i64 v.n, .string (tx v.s), .int .i64 v.x, .int .i64 v.y]] w (Std w0 A c E b l { S with it := v } n ov w) := by
  have hd1 := ((hd.put5b (S' := { S with it := v }) (n' := n) 52 (.int .i64 v.k) (.int .i64 v.n) (.string (tx v.s)) (.int .i64 v.x) (.int .i64 v.y) rfl rfl).old (box1 _ (.cells #[.int .i64 v.k, .int .i64 v.n, .string (tx v.s), .int .i64 v.x, .int .i64 v.y] 26))).drew
  have hm1 := (((((((Mv.refl : Mv b ov w ov w).putb 52 (.int .i64 v.k)).putb 53 (.int .i64 v.n)).putb 54 (.string (tx v.s))).putb 55 (.int .i64 v.x)).putb 56 (.int .i64 v.y)).old (box1 _ (.cells #[.int .i64 v.k, .int .i64 v.n, .string (tx v.s), .int .i64 v.x, .int .i64 v.y] 26))).old (Below.refl _ _).drew
  have HD := Lib.hid hd1; have HM := Lib.hid hm1
  have hlt := hd.blk.lt
  have c0 := hd.blk.c 52 _ rfl; have c1 := hd.blk.c 53 _ rfl; have c2 := hd.blk.c 54 _ rfl; have c3 := hd.blk.c 55 _ rfl; have c4 := hd.blk.c 56 _ rfl
  have z0 := hd.blk.f 52 _ rfl; have z1 := hd.blk.f 53 _ rfl; have z2 := hd.blk.f 54 _ rfl; have z3 := hd.blk.f 55 _ rfl; have z4 := hd.blk.f 56 _ rfl
  clear hd hd1 hm1
  go_enter Tryz.func103, Tryz.ntmps103
  go_wp2_with (fail)
  go_region
  go_end0
  exact ⟨rfl, HD.out, HM.out⟩
set_option maxRecDepth 100000 in
theorem stand4_def {w0 : World} {A : Option Addr} {c E b n : Nat} {l : List No} {S : St} {ov : Value} (w : World) (v : Va) (hd : Doer w0 A c E b l S n ov w) (u : FrameMode) :
    CallsD Tryz.prog 103 #[.pointer (some ⟨b, 0, none⟩), .int .i64 4, .agg #[.int .i64 v.k, .int .i64 v.n, .string (tx v.s), .int .i64 v.x, .int .i64 v.y]] u w (fun e u' w' => u' = u ∧ Std w0 A c E b l { S with it := v } n ov w e w') := by
  have hd1 := ((hd.put5b (S' := { S with it := v }) (n' := n) 52 (.int .i64 v.k) (.int .i64 v.n) (.string (tx v.s)) (.int .i64 v.x) (.int .i64 v.y) rfl rfl).old (box1 _ (.cells #[.int .i64 v.k, .int .i64 v.n, .string (tx v.s), .int .i64 v.x, .int .i64 v.y] 26))).drew
  have hm1 := (((((((Mv.refl : Mv b ov w ov w).putb 52 (.int .i64 v.k)).putb 53 (.int .i64 v.n)).putb 54 (.string (tx v.s))).putb 55 (.int .i64 v.x)).putb 56 (.int .i64 v.y)).old (box1 _ (.cells #[.int .i64 v.k, .int .i64 v.n, .string (tx v.s), .int .i64 v.x, .int .i64 v.y] 26))).old (Below.refl _ _).drew
  have HD := Lib.hid hd1; have HM := Lib.hid hm1
  have hlt := hd.blk.lt
  have c0 := hd.blk.c 52 _ rfl; have c1 := hd.blk.c 53 _ rfl; have c2 := hd.blk.c 54 _ rfl; have c3 := hd.blk.c 55 _ rfl; have c4 := hd.blk.c 56 _ rfl
  have z0 := hd.blk.f 52 _ rfl; have z1 := hd.blk.f 53 _ rfl; have z2 := hd.blk.f 54 _ rfl; have z3 := hd.blk.f 55 _ rfl; have z4 := hd.blk.f 56 _ rfl
  clear hd hd1 hm1
  go_enter_d Tryz.func103, Tryz.ntmps103
  go_wp2_with (fail)
  go_region
  go_end0
  exact ⟨rfl, HD.out, HM.out⟩
end Go.Proofs.YtcdjincaedpodaaGreatDoor.Ev
/-
  Which names a list has.
-/
namespace Go.Proofs.YtcdjincaedpodaaGreatDoor.Ex
open Go.ChangeShapes Go.WideShapes Go.ChangeAt Go.RowKit Go.Proofs.YtcdjincaedpodaaGreatDoor.Ov Go.Proofs.YtcdjincaedpodaaGreatDoor.Va

/-- Is the name i among the first k nodes? -/
def hasN (l : List No) (k i : Nat) : Bool := (l.take k).any fun n => n.o == 1 && n.v.n == (i : Int)
def hasL (l : List No) (k : Nat) : List Value := (List.range 5).map fun i => Value.bool (hasN l k i)
theorem hasN_zero (l : List No) (i : Nat) : hasN l 0 i = false := rfl
theorem hasN_succ {l : List No} {k : Nat} (h : k < l.length) (i : Nat) : hasN l (k + 1) i = (hasN l k i || ((nd l k).o == 1 && (nd l k).v.n == (i : Int))) := by
  unfold hasN
  rw [nd_at h, List.take_succ_eq_append_getElem h, List.any_append]; simp
theorem hasL_zero (l : List No) : hasL l 0 = [.bool false, .bool false, .bool false, .bool false, .bool false] := rfl
theorem hasL_other {l : List No} {k : Nat} (h : k < l.length) (ho : (nd l k).o ≠ 1) : hasL l (k + 1) = hasL l k := by
  unfold hasL
  apply List.map_congr_left
  intro i _
  rw [hasN_succ h, show ((nd l k).o == 1) = false from beq_eq_false_iff_ne.2 ho]; simp
theorem hasL_name {l : List No} {k j : Nat} (h : k < l.length) (ho : (nd l k).o = 1) (hj : (nd l k).v.n = (j : Int)) (hj5 : j < 5) : hasL l (k + 1) = (hasL l k).set j (.bool true) := by
  apply List.ext_getElem?
  intro i
  unfold hasL
  rw [List.getElem?_set]
  by_cases hi : i < 5
  · rw [List.getElem?_map, List.getElem?_range hi]
    simp only [Option.map_some]
    rw [hasN_succ h, ho, hj]
    by_cases e : j = i
    · subst e
      rw [if_pos rfl, if_pos (by simpa using hj5)]; simp
    · rw [if_neg e, List.getElem?_map, List.getElem?_range hi]
      have e2 : ((j : Int) == (i : Int)) = false := by rw [beq_eq_false_iff_ne]; omega
      rw [e2]; simp
  · rw [List.getElem?_eq_none (by simp; omega)]
    by_cases e : j = i
    · omega
    · rw [if_neg e, List.getElem?_eq_none (by simp; omega)]
theorem hasL_get (l : List No) (k : Nat) {i : Nat} (hi : i < 5) : (hasL l k)[i]? = some (.bool (hasN l k i)) := by
  unfold hasL
  rw [List.getElem?_map, List.getElem?_range hi]; rfl
/-- The names of a list, as a value. -/
def hnv (l : List No) (k : Nat) : Value := .agg #[.bool (hasN l k 0), .bool (hasN l k 1), .bool (hasN l k 2), .bool (hasN l k 3), .bool (hasN l k 4)]
def nmv (l : List No) : Value := if Rt l = true then hnv l l.length else .agg #[.bool false, .bool false, .bool false, .bool false, .bool false]
theorem Rt_names {l : List No} (h : Rt l = true) : ∀ k, k < l.length → rn (nd l k) = true := by
  intro k hk
  obtain ⟨_, hex⟩ := Rt_in h
  obtain ⟨r', h'⟩ := ex_each 25 l [] hex k (by simpa using hk)
  rw [drop_nd hk, ex_cons] at h'
  rcases Bool.eq_false_or_eq_true (rn (nd l k)) with hr | hr
  · exact hr
  · rw [hr] at h'; cases h'
theorem name_in {n : No} (h : rn n = true) (ho : n.o = 1) : ∃ j : Nat, n.v.n = (j : Int) ∧ j < 5 := by
  rcases rn_cases h with ⟨h1, _⟩ | ⟨_, _, h1⟩ | ⟨h1, _⟩
  · omega
  · exact ⟨n.v.n.toNat, by omega, by omega⟩
  · omega
set_option maxRecDepth 100000 in
set_option maxHeartbeats 4000000 in
theorem names_any (l : List No) (A : Option Addr) (c : Nat) (w : World) (hn : Nds w A l) (hk : KN w) (hl : l.length ≤ 4294967296) : Calls Tryz.prog 16 #[.slice A l.length c] w (Gives (nmv l) w) := by
  have HN := Lib.hid hn; have HK := Lib.hid hk
  clear hn hk
  obtain ⟨q, hq⟩ : ∃ q, Rt l = q := ⟨_, rfl⟩
  have HQ := Lib.hid hq
  go_enter Tryz.func16, Tryz.ntmps16
  go_wp2_with (fail)
  have hb2 := box2 w (.cells #[.bool false, .bool false, .bool false, .bool false, .bool false] 52) (.cells #[.bool false, .bool false, .bool false, .bool false, .bool false] 52)
  have D2 : Blk ((w.alloc (.cells #[.bool false, .bool false, .bool false, .bool false, .bool false] 52)).alloc (.cells #[.bool false, .bool false, .bool false, .bool false, .bool false] 52)) w.heap.size (hasL l 0) := (Blk.made w 52 (hasL l 0) rfl).old _
  have D3 : Blk ((w.alloc (.cells #[.bool false, .bool false, .bool false, .bool false, .bool false] 52)).alloc (.cells #[.bool false, .bool false, .bool false, .bool false, .bool false] 52)) (w.heap.size + 1) (hasL l 0) := Blk.made (w.alloc (.cells #[.bool false, .bool false, .bool false, .bool false, .bool false] 52)) 52 (hasL l 0) (World.size_alloc _ _)
  generalize (w.alloc (.cells #[.bool false, .bool false, .bool false, .bool false, .bool false] 52)).alloc (.cells #[.bool false, .bool false, .bool false, .bool false, .bool false] 52) = v at *
  have HC := Lib.hid (eright_any l A c v (HN.out.next hb2) (HK.out.next hb2) hl)
  rw [hq] at HC
  refine HC.out.mono ?_
  rintro e w1 ⟨rfl, hb⟩
  have HB1 := Lib.hid (Below.next hb2 hb)
  have HD2 := Lib.hid (D2.next hb)
  have HD3 := Lib.hid (D3.next hb)
  clear hb hb2 D2 D3 HK HC hq
  cases q with
  | false =>
    have HE : Hid (nmv l = .agg #[.bool false, .bool false, .bool false, .bool false, .bool false]) := by show _ = _; unfold nmv; rw [if_neg (by rw [HQ.out]; decide)]
    have HZ2 := Lib.hid (HD2.out.cast (hasL_zero l))
    have HZ3 := Lib.hid (HD3.out.cast (hasL_zero l))
    have d0 := HZ3.out.c 0 _ rfl; have d1 := HZ3.out.c 1 _ rfl; have d2 := HZ3.out.c 2 _ rfl; have d3 := HZ3.out.c 3 _ rfl; have d4 := HZ3.out.c 4 _ rfl
    have a0 := HZ2.out.c 0 _ rfl; have a1 := HZ2.out.c 1 _ rfl; have a2 := HZ2.out.c 2 _ rfl; have a3 := HZ2.out.c 3 _ rfl; have a4 := HZ2.out.c 4 _ rfl
    have f0 := HZ2.out.f 0 _ rfl; have f1 := HZ2.out.f 1 _ rfl; have f2 := HZ2.out.f 2 _ rfl; have f3 := HZ2.out.f 3 _ rfl; have f4 := HZ2.out.f 4 _ rfl
    clear HD2 HD3
    go_wp2_with (fail)
    have RF := ((((HZ2.out.set 0 (.bool false)).set 1 (.bool false)).set 2 (.bool false)).set 3 (.bool false)).set 4 (.bool false)
    have c0 := RF.c 0 _ rfl; have c1 := RF.c 1 _ rfl; have c2 := RF.c 2 _ rfl; have c3 := RF.c 3 _ rfl; have c4 := RF.c 4 _ rfl
    clear RF
    rw [HE.out]
    refine bodyPost_ret (v := .agg #[.bool false, .bool false, .bool false, .bool false, .bool false]) (by simp [results, Tryz.results16, go_sem, c0, c1, c2, c3, c4]) rfl ⟨rfl, ?_⟩
    exact below_all5 HB1.out (Nat.le_refl _) _ _ _ _ _
  | true =>
    have HE : Hid (nmv l = hnv l l.length) := by show _ = _; unfold nmv; rw [if_pos HQ.out]
    have HRN := Lib.hid (Rt_names HQ.out)
    have hsz : w.heap.size + 1 < w1.heap.size := HD3.out.lt
    go_wp2_with (fail)
    go_loopw [12] (fun i wr => ∃ k : Nat, k ≤ l.length ∧ i = .int .i64 (k : Int) ∧ Below w.heap.size w wr ∧ Blk wr w.heap.size (hasL l 0) ∧ Blk wr (w.heap.size + 1) (hasL l k)) (fun i _ => l.length - (intOf i).toNat)
    case atStart => exact ⟨0, Nat.zero_le _, rfl, HB1.out, HD2.out, HD3.out⟩
    case round =>
      obtain ⟨k, hk, rfl, hb, hz2, hz3⟩ := hrel
      have HB := Lib.hid hb; have HN1 := Lib.hid (HN.out.next hb); have HZ2 := Lib.hid hz2; have HZ3 := Lib.hid hz3
      clear hb hz2 hz3 HD2 HD3 HB1 hsz
      by_cases hlt : k < l.length
      · obtain ⟨G, O, rfl⟩ := HN1.out.shape (by omega)
        have e0 := HN1.out.cell hlt 0 _ rfl
        have e1 := HN1.out.cell hlt 1 _ rfl
        have e2 := HN1.out.cell hlt 2 _ rfl
        have e3 := HN1.out.cell hlt 3 _ rfl
        have e4 := HN1.out.cell hlt 4 _ rfl
        have e5 := HN1.out.cell hlt 5 _ rfl
        rw [Nat.add_zero] at e0
        have hgl : G < wr.heap.size := HN1.out.lt (by omega)
        have hzl := HZ3.out.lt
        have hlo := HB.out.size
        by_cases ho : (nd l k).o = 1
        · obtain ⟨j, hj, hj5⟩ := name_in (HRN.out k hlt) ho
          have HL := Lib.hid (hasL_name hlt ho hj hj5)
          rw [ho] at e0
          rw [hj] at e2
          clear ho hj
          generalize nd l k = n at *
          have hb1 := box1 wr (.cells #[.int .i64 1, .int .i64 n.v.k, .int .i64 (j : Int), .string (tx n.v.s), .int .i64 n.v.x, .int .i64 n.v.y] 59)
          have HZ4 := Lib.hid (HZ3.out.next hb1)
          have HY4 := Lib.hid (HZ2.out.next hb1)
          have HB4 := Lib.hid (Below.next HB.out hb1)
          have b3 := HZ4.out.c j _ (hasL_get l k hj5)
          have f3 := HZ4.out.f j _ (hasL_get l k hj5)
          clear hb1
          go_wp2_with (fail)
          go_roundw
          case rel => exact ⟨k + 1, by omega, by go_num, (HB.out.setCell (p := ⟨w.heap.size + 1, j, none⟩) (Nat.le_succ _) _).alloc (by simp; omega) _, (HZ2.out.put (c := w.heap.size + 1) (by omega) j (.bool true)).old _, ((HZ3.out.set j (.bool true)).old _).cast HL.out.symm⟩
          case measure => simp [intOf]; omega
        · have HL := Lib.hid (hasL_other hlt ho)
          have g1 : ((nd l k).o == 1) = false := beq_eq_false_iff_ne.2 ho
          clear ho
          generalize nd l k = n at *
          have hb1 := box1 wr (.cells #[.int .i64 n.o, .int .i64 n.v.k, .int .i64 n.v.n, .string (tx n.v.s), .int .i64 n.v.x, .int .i64 n.v.y] 59)
          have HZ4 := Lib.hid (HZ3.out.next hb1)
          have HY4 := Lib.hid (HZ2.out.next hb1)
          have HB4 := Lib.hid (Below.next HB.out hb1)
          clear hb1
          go_wp2_with (fail)
          go_roundw
          case rel => exact ⟨k + 1, by omega, by go_num, HB4.out, HY4.out, HZ4.out.cast HL.out.symm⟩
          case measure => simp [intOf]; omega
      · obtain rfl : k = l.length := by omega
        have HY := Lib.hid (HZ2.out.cast (hasL_zero l))
        have d0 := HZ3.out.c 0 _ (hasL_get l _ (by omega)); have d1 := HZ3.out.c 1 _ (hasL_get l _ (by omega)); have d2 := HZ3.out.c 2 _ (hasL_get l _ (by omega)); have d3 := HZ3.out.c 3 _ (hasL_get l _ (by omega)); have d4 := HZ3.out.c 4 _ (hasL_get l _ (by omega))
        have a0 := HY.out.c 0 _ rfl; have a1 := HY.out.c 1 _ rfl; have a2 := HY.out.c 2 _ rfl; have a3 := HY.out.c 3 _ rfl; have a4 := HY.out.c 4 _ rfl
        have f0 := HY.out.f 0 _ rfl; have f1 := HY.out.f 1 _ rfl; have f2 := HY.out.f 2 _ rfl; have f3 := HY.out.f 3 _ rfl; have f4 := HY.out.f 4 _ rfl
        have HRES : Hid (nmv l = .agg #[.bool (hasN l l.length 0), .bool (hasN l l.length 1), .bool (hasN l l.length 2), .bool (hasN l l.length 3), .bool (hasN l l.length 4)]) := HE.out
        clear HE HZ2 HZ3
        generalize hasN l l.length 0 = p0 at *
        generalize hasN l l.length 1 = p1 at *
        generalize hasN l l.length 2 = p2 at *
        generalize hasN l l.length 3 = p3 at *
        generalize hasN l l.length 4 = p4 at *
        go_wp2_with (fail)
        have RF := ((((HY.out.set 0 (.bool p0)).set 1 (.bool p1)).set 2 (.bool p2)).set 3 (.bool p3)).set 4 (.bool p4)
        have c0 := RF.c 0 _ rfl; have c1 := RF.c 1 _ rfl; have c2 := RF.c 2 _ rfl; have c3 := RF.c 3 _ rfl; have c4 := RF.c 4 _ rfl
        clear RF
        rw [HRES.out]
        refine bodyPost_ret (v := .agg #[.bool p0, .bool p1, .bool p2, .bool p3, .bool p4]) (by simp [results, Tryz.results16, go_sem, c0, c1, c2, c3, c4]) rfl ⟨rfl, ?_⟩
        exact below_all5 HB.out (Nat.le_refl _) _ _ _ _ _
end Go.Proofs.YtcdjincaedpodaaGreatDoor.Ex
/-
  Value, name, if (written by gen_evalike.py).
-/
namespace Go.Proofs.YtcdjincaedpodaaGreatDoor.Ev
open Go.ChangeShapes Go.WideShapes Go.ChangeAt Go.RowKit Go.Proofs.YtcdjincaedpodaaGreatDoor.Ov Go.Proofs.YtcdjincaedpodaaGreatDoor.Va Go.Proofs.YtcdjincaedpodaaGreatDoor.Ga Go.Proofs.YtcdjincaedpodaaGreatDoor.Ex

/-- What an if does whose first part is done. -/
def chs (f : List No → M Va) (r : List No) (l : List Va) : M Va := if (at0 l).n = 0 then f (nx (nx r)) else f (nx r)
theorem chs_at (f : List No → M Va) (r : List No) (l : List Va) (S : St) (n : Nat) : chs f r l S n = (if (at0 l).n = 0 then f (nx (nx r)) else f (nx r)) S n := rfl
theorem body_choose (f : List No → M Va) (n : No) (r : List No) (h : n.o = 11) : body f n r = bnd (prt f [0] r) (chs f r) := by
  unfold body
  rw [if_neg (by omega), if_neg (by omega), if_pos h, prt_one]
  congr 1
  funext a
  by_cases h0 : a.k = 0
  · have e : ((0 : Int) == -1 || a.k == 0) = true := by simp [h0]
    rw [e, if_neg (fun e => e h0)]; rfl
  · have e : ((0 : Int) == -1 || a.k == 0) = false := by simpa using h0
    rw [e, if_pos h0]; rfl
set_option maxRecDepth 100000 in
set_option maxHeartbeats 2000000 in
theorem deed_value {d : Nat} : DeedC d 0 34 := by
  intro w0 A c E b l S n ov w k r hcx hd hg hkl ho hrn hx hd24
  obtain ⟨B, O, rfl⟩ := hcx.nds.shape (by omega)
  have hl := hcx.len
  have hnw := hcx.nds.next hd.fro
  have HBD : Hid (body (ev d) (nd l k) (l.drop (k + 1)) S n = .ok (nd l k).v S n) := by show _ = _; have ho2 : (nd l k).o = 0 := ho; unfold body; rw [if_pos ho2]; rfl
  have e0 := hd.blk.c 0 _ rfl
  have e1 := hnw.cell hkl 1 _ rfl
  have e2 := hnw.cell hkl 2 _ rfl
  have e3 := hnw.cell hkl 3 _ rfl
  have e4 := hnw.cell hkl 4 _ rfl
  have e5 := hnw.cell hkl 5 _ rfl
  have hlt := hd.blk.lt
  have hBl : B < w.heap.size := block_lt_of_cell e1
  generalize (nd l k).v = v at *
  have hx9 : Box w0 b E ov w.heap.size [.int .i64 v.k, .int .i64 v.n, .string (tx v.s), .int .i64 v.x, .int .i64 v.y] (w.alloc (.cells #[.int .i64 v.k, .int .i64 v.n, .string (tx v.s), .int .i64 v.x, .int .i64 v.y] 26)) := Box.made hd (by omega) 26 [.int .i64 v.k, .int .i64 v.n, .string (tx v.s), .int .i64 v.x, .int .i64 v.y]
  have hd9 := hd.old (box1 w (.cells #[.int .i64 v.k, .int .i64 v.n, .string (tx v.s), .int .i64 v.x, .int .i64 v.y] 26)); have hm9 : Mv b ov w ov (w.alloc (.cells #[.int .i64 v.k, .int .i64 v.n, .string (tx v.s), .int .i64 v.x, .int .i64 v.y] 26)) := Mv.of (box1 w _)
  have HD := Lib.hid hd9; have HM := Lib.hid hm9; have HX := Lib.hid hx9; have HB := Lib.hid HBD
  clear hcx hd hg ho hrn hx hd24 hnw hd9 hm9 hx9 HBD
  go_enter Tryz.func34, Tryz.ntmps34
  go_wp2_with (fail)
  have hd9 := HD.out; have hm9 := HM.out; have hx9 := HX.out
  clear HD HM HX
  generalize w.alloc (.cells #[.int .i64 v.k, .int .i64 v.n, .string (tx v.s), .int .i64 v.x, .int .i64 v.y] 26) = w9 at *
  have c0 := hx9.blk.c 0 _ rfl; have c1 := hx9.blk.c 1 _ rfl; have c2 := hx9.blk.c 2 _ rfl; have c3 := hx9.blk.c 3 _ rfl; have c4 := hx9.blk.c 4 _ rfl
  refine bodyPost_ret (v := .tuple #[.agg #[.int .i64 v.k, .int .i64 v.n, .string (tx v.s), .int .i64 v.x, .int .i64 v.y], .int .i64 0]) (by simp [results, Tryz.results34, go_sem, c0, c1, c2, c3, c4]) rfl ⟨v, 0, S, n, ov, rfl, by rw [HB.out]; exact Ans.ok rfl rfl, hd9, hm9⟩

/-- What stands for a name, as a value. -/
def nmV (S : St) (j : Nat) : Va := if j = 0 then tv S.key else if j = 1 then S.val else if j = 2 then S.acc else if j = 3 then nv S.i else S.it
theorem nmd_at (S : St) (n : Nat) {j : Nat} (h : j < 5) : nmd (j : Int) S n = .ok (nmV S j) S n := by
  match j, h with
  | 0, _ => rfl
  | 1, _ => rfl
  | 2, _ => rfl
  | 3, _ => rfl
  | 4, _ => rfl
theorem nm_cell {A : Option Addr} {c E b len n : Nat} {S : St} {ov : Value} {j : Nat} (h : j < 5) (i : Nat) (hi : i < 5) : (dcs A c E b len S n ov)[32 + j * 5 + i]? = (vcl (nmV S j))[i]? := by
  match j, h, i, hi with
  | 0, _, 0, _ => rfl
  | 0, _, 1, _ => rfl
  | 0, _, 2, _ => rfl
  | 0, _, 3, _ => rfl
  | 0, _, 4, _ => rfl
  | 1, _, 0, _ => rfl
  | 1, _, 1, _ => rfl
  | 1, _, 2, _ => rfl
  | 1, _, 3, _ => rfl
  | 1, _, 4, _ => rfl
  | 2, _, 0, _ => rfl
  | 2, _, 1, _ => rfl
  | 2, _, 2, _ => rfl
  | 2, _, 3, _ => rfl
  | 2, _, 4, _ => rfl
  | 3, _, 0, _ => rfl
  | 3, _, 1, _ => rfl
  | 3, _, 2, _ => rfl
  | 3, _, 3, _ => rfl
  | 3, _, 4, _ => rfl
  | 4, _, 0, _ => rfl
  | 4, _, 1, _ => rfl
  | 4, _, 2, _ => rfl
  | 4, _, 3, _ => rfl
  | 4, _, 4, _ => rfl
set_option maxRecDepth 100000 in
set_option maxHeartbeats 2000000 in
theorem deed_name {d : Nat} : DeedC d 1 35 := by
  intro w0 A c E b l S n ov w k r hcx hd hg hkl ho hrn hx hd24
  obtain ⟨B, O, rfl⟩ := hcx.nds.shape (by omega)
  have hl := hcx.len
  have hnw := hcx.nds.next hd.fro
  obtain ⟨j, hj, hj5⟩ := name_in hrn (by omega)
  have HBD : Hid (body (ev d) (nd l k) (l.drop (k + 1)) S n = .ok (nmV S j) S n) := by show _ = _; have ho2 : (nd l k).o = 1 := ho; unfold body; rw [if_neg (by omega), if_pos ho2, hj]; exact nmd_at S n hj5
  have e0 := hd.blk.c 0 _ rfl
  have e1 := hnw.cell hkl 2 _ rfl
  rw [hj] at e1
  have u0 := hd.blk.c (32 + j * 5) _ (nm_cell hj5 0 (by decide))
  have u1 := hd.blk.c (32 + j * 5 + 1) _ (nm_cell hj5 1 (by decide))
  have u2 := hd.blk.c (32 + j * 5 + 2) _ (nm_cell hj5 2 (by decide))
  have u3 := hd.blk.c (32 + j * 5 + 3) _ (nm_cell hj5 3 (by decide))
  have u4 := hd.blk.c (32 + j * 5 + 4) _ (nm_cell hj5 4 (by decide))
  have hlt := hd.blk.lt
  have hBl : B < w.heap.size := block_lt_of_cell e1
  generalize nmV S j = v at *
  have hx9 := (show Box w0 b E ov w.heap.size [.int .i64 v.k, .int .i64 v.n, .string (tx v.s), .int .i64 v.x, .int .i64 v.y] (w.alloc (.cells #[.int .i64 v.k, .int .i64 v.n, .string (tx v.s), .int .i64 v.x, .int .i64 v.y] 26)) from Box.made hd (by omega) 26 [.int .i64 v.k, .int .i64 v.n, .string (tx v.s), .int .i64 v.x, .int .i64 v.y]).drew
  have hd9 := (hd.old (box1 w (.cells #[.int .i64 v.k, .int .i64 v.n, .string (tx v.s), .int .i64 v.x, .int .i64 v.y] 26))).drew; have hm9 := (show Mv b ov w ov (w.alloc (.cells #[.int .i64 v.k, .int .i64 v.n, .string (tx v.s), .int .i64 v.x, .int .i64 v.y] 26)) from Mv.of (box1 w _)).old (Below.refl _ _).drew
  have HD := Lib.hid hd9; have HM := Lib.hid hm9; have HX := Lib.hid hx9; have HB := Lib.hid HBD
  clear hcx hd hg ho hrn hx hd24 hnw hd9 hm9 hx9 HBD
  go_enter Tryz.func35, Tryz.ntmps35
  go_wp2_with (fail)
  go_region
  go_wp2_with (fail)
  have hd9 := HD.out; have hm9 := HM.out; have hx9 := HX.out
  clear HD HM HX
  generalize (w.alloc (.cells #[.int .i64 v.k, .int .i64 v.n, .string (tx v.s), .int .i64 v.x, .int .i64 v.y] 26)).drew = w9 at *
  have c0 := hx9.blk.c 0 _ rfl; have c1 := hx9.blk.c 1 _ rfl; have c2 := hx9.blk.c 2 _ rfl; have c3 := hx9.blk.c 3 _ rfl; have c4 := hx9.blk.c 4 _ rfl
  refine bodyPost_ret (v := .tuple #[.agg #[.int .i64 v.k, .int .i64 v.n, .string (tx v.s), .int .i64 v.x, .int .i64 v.y], .int .i64 0]) (by simp [results, Tryz.results35, go_sem, c0, c1, c2, c3, c4]) rfl ⟨v, 0, S, n, ov, rfl, by rw [HB.out]; exact Ans.ok rfl rfl, hd9, hm9⟩

set_option maxRecDepth 100000 in
set_option maxHeartbeats 2000000 in
theorem deed_choose {d : Nat} (HD : DoC (ev d) d) : DeedC d 11 45 := by
  intro w0 A c E b l S n ov w k r hcx hd hg hkl ho hrn hx hd24
  have HBD : Hid (body (ev d) (nd l k) (l.drop (k + 1)) S n = bnd (prt (ev d) [0] (l.drop (k + 1))) (chs (ev d) (l.drop (k + 1))) S n) := by show _ = _; exact congrFun (congrFun (body_choose _ _ _ ho) S) n
  have HP := Lib.hid (pre_any HD [0] (by decide) (by decide) (by decide) hcx hd hg hkl hx (by decide) hd24)
  have hx3 := hx
  change it (ex d) 3 (l.drop (k + 1)) = some r at hx3
  rw [it_succ] at hx3
  obtain ⟨r1, x1, hx3⟩ := Option.bind_eq_some_iff.1 hx3
  rw [it_succ] at hx3
  obtain ⟨r2, x2, hx3⟩ := Option.bind_eq_some_iff.1 hx3
  rw [it_succ] at hx3
  obtain ⟨r3, x3, hx3⟩ := Option.bind_eq_some_iff.1 hx3
  obtain ⟨g1, g2, g3⟩ := ex_drop_len x1 (by omega)
  obtain ⟨y1, hy1⟩ : ∃ y1, l.length - r1.length = y1 := ⟨_, rfl⟩
  rw [hy1] at g1 g2
  rw [g1] at x2
  obtain ⟨g4, g5, g6⟩ := ex_drop_len x2 (by omega)
  obtain ⟨y2, hy2⟩ : ∃ y2, l.length - r2.length = y2 := ⟨_, rfl⟩
  rw [hy2] at g4 g5
  rw [g4] at x3
  obtain ⟨g7, g8, g9⟩ := ex_drop_len x3 (by omega)
  have hl := hcx.len
  have HB1 : Hid (l.length - (nx (l.drop (k + 1))).length = y1) := by show _ = _; rw [nx_of x1 (by omega)]; exact hy1
  have HB2 : Hid (l.length - (nx (l.drop y1)).length = y2) := by show _ = _; rw [nx_of x2 (by omega)]; exact hy2
  have HN1 : Hid (nx (l.drop (k + 1)) = l.drop y1) := by show _ = _; rw [nx_of x1 (by omega)]; exact g1
  have HN2 : Hid (nx (l.drop y1) = l.drop y2) := by show _ = _; rw [nx_of x2 (by omega)]; exact g4
  have HC1 := Lib.hid (fun S1 n1 ov1 w3 hd3 hg3 => HD w0 A c E b l S1 n1 ov1 w3 y1 r2 hcx hd3 hg3 x2 (by omega))
  have HC2 := Lib.hid (fun S1 n1 ov1 w3 hd3 hg3 => HD w0 A c E b l S1 n1 ov1 w3 y2 r3 hcx hd3 hg3 x3 (by omega))
  have hk1 : k + 1 < l.length := by omega
  have hy1l : y1 < l.length := by omega
  have hy2l : y2 < l.length := by omega
  clear hx3 x1 x2 x3 g1 g2 g3 g4 g5 g6 g7 g8 g9 hy1 hy2
  clear hcx hd hg ho hrn hx hd24 HD
  go_enter Tryz.func45, Tryz.ntmps45
  go_wp2_with (fail)
  refine (HP.out).mono ?_
  rintro e w3 ⟨p0, p1, p2, x, S1, n1, ov1, rfl, ha, r0, r1, r2, hgd, hd3, hm3, hx3⟩
  have HA := Lib.hid ha; have R0 := Lib.hid r0; have R1 := Lib.hid r1; have R2 := Lib.hid r2; have HG := Lib.hid hgd; have HD3 := Lib.hid hd3; have HM3 := Lib.hid hm3; have HX3 := Lib.hid hx3
  have hlZ := hx3.blk.lt
  clear ha r0 r1 r2 hgd hd3 hm3 hx3 HP
  rcases HA.out.cases with ⟨hx0, hX⟩ | ⟨rfl, a, ha, hX⟩
  · have HX0 := Lib.hid hx0; have HXX := Lib.hid hX
    have hx1 : (x == 0) = false := by simpa using hx0
    have hx2 : (x != 0) = true := by simpa using hx0
    clear hx0 hX HA
    have cX0 := HX3.out.blk.c 0 _ rfl; have zX0 := HX3.out.blk.f 0 _ rfl
    have cX1 := HX3.out.blk.c 1 _ rfl; have zX1 := HX3.out.blk.f 1 _ rfl
    have cX2 := HX3.out.blk.c 2 _ rfl; have zX2 := HX3.out.blk.f 2 _ rfl
    have cX3 := HX3.out.blk.c 3 _ rfl; have zX3 := HX3.out.blk.f 3 _ rfl
    have cX4 := HX3.out.blk.c 4 _ rfl; have zX4 := HX3.out.blk.f 4 _ rfl
    have hltX := HX3.out.blk.lt
    go_wp2_with (fail)
    have hd9 := ((HD3.out.puts HX3.out 0 [.int .i64 0, .int .i64 0, .string ⟨#[]⟩, .int .i64 0, .int .i64 0]).old (box1 _ (.cells #[.int .i64 p0.k, .int .i64 p0.n, .string (tx p0.s), .int .i64 p0.x, .int .i64 p0.y, .int .i64 p1.k, .int .i64 p1.n, .string (tx p1.s), .int .i64 p1.x, .int .i64 p1.y, .int .i64 p2.k, .int .i64 p2.n, .string (tx p2.s), .int .i64 p2.x, .int .i64 p2.y] 106)))
    have hm9 := ((Mv.puts (B := w.heap.size) HM3.out (by omega) 0 [.int .i64 0, .int .i64 0, .string ⟨#[]⟩, .int .i64 0, .int .i64 0]).old (box1 _ (.cells #[.int .i64 p0.k, .int .i64 p0.n, .string (tx p0.s), .int .i64 p0.x, .int .i64 p0.y, .int .i64 p1.k, .int .i64 p1.n, .string (tx p1.s), .int .i64 p1.x, .int .i64 p1.y, .int .i64 p2.k, .int .i64 p2.n, .string (tx p2.s), .int .i64 p2.x, .int .i64 p2.y] 106)))
    have hxX := ((Box.puts (HX3.out) [.int .i64 0, .int .i64 0, .string ⟨#[]⟩, .int .i64 0, .int .i64 0] rfl).old (box1 _ (.cells #[.int .i64 p0.k, .int .i64 p0.n, .string (tx p0.s), .int .i64 p0.x, .int .i64 p0.y, .int .i64 p1.k, .int .i64 p1.n, .string (tx p1.s), .int .i64 p1.x, .int .i64 p1.y, .int .i64 p2.k, .int .i64 p2.n, .string (tx p2.s), .int .i64 p2.x, .int .i64 p2.y] 106)))
    clear cX0 zX0 cX1 zX1 cX2 zX2 cX3 zX3 cX4 zX4 HD3 HM3 HX3 
    change bodyPost _ _ _ _ _ ((((((w3.setCell ⟨w.heap.size, 0, none⟩ (.int .i64 0)).setCell ⟨w.heap.size, 1, none⟩ (.int .i64 0)).setCell ⟨w.heap.size, 2, none⟩ (.string ⟨#[]⟩)).setCell ⟨w.heap.size, 3, none⟩ (.int .i64 0)).setCell ⟨w.heap.size, 4, none⟩ (.int .i64 0)).alloc (.cells #[.int .i64 p0.k, .int .i64 p0.n, .string (tx p0.s), .int .i64 p0.x, .int .i64 p0.y, .int .i64 p1.k, .int .i64 p1.n, .string (tx p1.s), .int .i64 p1.x, .int .i64 p1.y, .int .i64 p2.k, .int .i64 p2.n, .string (tx p2.s), .int .i64 p2.x, .int .i64 p2.y] 106))
    change Doer _ _ _ _ _ _ _ _ _ (((((((w3.setCell ⟨w.heap.size, 0, none⟩ (.int .i64 0)).setCell ⟨w.heap.size, 1, none⟩ (.int .i64 0)).setCell ⟨w.heap.size, 2, none⟩ (.string ⟨#[]⟩)).setCell ⟨w.heap.size, 3, none⟩ (.int .i64 0)).setCell ⟨w.heap.size, 4, none⟩ (.int .i64 0)).alloc (.cells #[.int .i64 p0.k, .int .i64 p0.n, .string (tx p0.s), .int .i64 p0.x, .int .i64 p0.y, .int .i64 p1.k, .int .i64 p1.n, .string (tx p1.s), .int .i64 p1.x, .int .i64 p1.y, .int .i64 p2.k, .int .i64 p2.n, .string (tx p2.s), .int .i64 p2.x, .int .i64 p2.y] 106))) at hd9
    change Mv _ _ _ _ (((((((w3.setCell ⟨w.heap.size, 0, none⟩ (.int .i64 0)).setCell ⟨w.heap.size, 1, none⟩ (.int .i64 0)).setCell ⟨w.heap.size, 2, none⟩ (.string ⟨#[]⟩)).setCell ⟨w.heap.size, 3, none⟩ (.int .i64 0)).setCell ⟨w.heap.size, 4, none⟩ (.int .i64 0)).alloc (.cells #[.int .i64 p0.k, .int .i64 p0.n, .string (tx p0.s), .int .i64 p0.x, .int .i64 p0.y, .int .i64 p1.k, .int .i64 p1.n, .string (tx p1.s), .int .i64 p1.x, .int .i64 p1.y, .int .i64 p2.k, .int .i64 p2.n, .string (tx p2.s), .int .i64 p2.x, .int .i64 p2.y] 106))) at hm9
    change Box _ _ _ _ _ _ (((((((w3.setCell ⟨w.heap.size, 0, none⟩ (.int .i64 0)).setCell ⟨w.heap.size, 1, none⟩ (.int .i64 0)).setCell ⟨w.heap.size, 2, none⟩ (.string ⟨#[]⟩)).setCell ⟨w.heap.size, 3, none⟩ (.int .i64 0)).setCell ⟨w.heap.size, 4, none⟩ (.int .i64 0)).alloc (.cells #[.int .i64 p0.k, .int .i64 p0.n, .string (tx p0.s), .int .i64 p0.x, .int .i64 p0.y, .int .i64 p1.k, .int .i64 p1.n, .string (tx p1.s), .int .i64 p1.x, .int .i64 p1.y, .int .i64 p2.k, .int .i64 p2.n, .string (tx p2.s), .int .i64 p2.x, .int .i64 p2.y] 106))) at hxX
    generalize (((((((w3.setCell ⟨w.heap.size, 0, none⟩ (.int .i64 0)).setCell ⟨w.heap.size, 1, none⟩ (.int .i64 0)).setCell ⟨w.heap.size, 2, none⟩ (.string ⟨#[]⟩)).setCell ⟨w.heap.size, 3, none⟩ (.int .i64 0)).setCell ⟨w.heap.size, 4, none⟩ (.int .i64 0)).alloc (.cells #[.int .i64 p0.k, .int .i64 p0.n, .string (tx p0.s), .int .i64 p0.x, .int .i64 p0.y, .int .i64 p1.k, .int .i64 p1.n, .string (tx p1.s), .int .i64 p1.x, .int .i64 p1.y, .int .i64 p2.k, .int .i64 p2.n, .string (tx p2.s), .int .i64 p2.x, .int .i64 p2.y] 106))) = w9 at *
    have cX0 := hxX.blk.c 0 _ rfl
    have cX1 := hxX.blk.c 1 _ rfl
    have cX2 := hxX.blk.c 2 _ rfl
    have cX3 := hxX.blk.c 3 _ rfl
    have cX4 := hxX.blk.c 4 _ rfl
    refine bodyPost_ret (v := .tuple #[.agg #[.int .i64 0, .int .i64 0, .string ⟨#[]⟩, .int .i64 0, .int .i64 0], .int .i64 x]) (by simp [results, Tryz.results45, go_sem, cX0, cX1, cX2, cX3, cX4]) rfl ⟨vz, x, S1, n1, ov1, rfl, by rw [HBD.out]; exact Ans.er (bnd_er HXX.out) rfl HX0.out, hd9, hm9⟩
  · have HXX := Lib.hid hX; have HAA := Lib.hid ha; have HGD := Lib.hid (HG.out rfl)
    clear hX ha HA HG
    have HS := Lib.hid (second_any _ k (HD3.out.old (box1 w3 (.cells #[.int .i64 p0.k, .int .i64 p0.n, .string (tx p0.s), .int .i64 p0.x, .int .i64 p0.y, .int .i64 p1.k, .int .i64 p1.n, .string (tx p1.s), .int .i64 p1.x, .int .i64 p1.y, .int .i64 p2.k, .int .i64 p2.n, .string (tx p2.s), .int .i64 p2.x, .int .i64 p2.y] 106))) hk1 hl)
    rw [HB1.out] at HS
    go_wp2_with (fail)
    refine (HS.out).mono ?_
    rintro e w4 ⟨rfl, hb⟩
    have HD4 := Lib.hid ((HD3.out.old (box1 _ (.cells #[.int .i64 p0.k, .int .i64 p0.n, .string (tx p0.s), .int .i64 p0.x, .int .i64 p0.y, .int .i64 p1.k, .int .i64 p1.n, .string (tx p1.s), .int .i64 p1.x, .int .i64 p1.y, .int .i64 p2.k, .int .i64 p2.n, .string (tx p2.s), .int .i64 p2.x, .int .i64 p2.y] 106))).old hb)
    have HM4 := Lib.hid ((HM3.out.old (box1 _ (.cells #[.int .i64 p0.k, .int .i64 p0.n, .string (tx p0.s), .int .i64 p0.x, .int .i64 p0.y, .int .i64 p1.k, .int .i64 p1.n, .string (tx p1.s), .int .i64 p1.x, .int .i64 p1.y, .int .i64 p2.k, .int .i64 p2.n, .string (tx p2.s), .int .i64 p2.x, .int .i64 p2.y] 106))).old hb)
    have HX4 := Lib.hid ((HX3.out.old (box1 _ (.cells #[.int .i64 p0.k, .int .i64 p0.n, .string (tx p0.s), .int .i64 p0.x, .int .i64 p0.y, .int .i64 p1.k, .int .i64 p1.n, .string (tx p1.s), .int .i64 p1.x, .int .i64 p1.y, .int .i64 p2.k, .int .i64 p2.n, .string (tx p2.s), .int .i64 p2.x, .int .i64 p2.y] 106))).old hb)
    have HP4 : Hid (Box w0 b E ov1 (w3.heap.size) [.int .i64 p0.k, .int .i64 p0.n, .string (tx p0.s), .int .i64 p0.x, .int .i64 p0.y, .int .i64 p1.k, .int .i64 p1.n, .string (tx p1.s), .int .i64 p1.x, .int .i64 p1.y, .int .i64 p2.k, .int .i64 p2.n, .string (tx p2.s), .int .i64 p2.x, .int .i64 p2.y] w4) := by
      have h := Box.made HD3.out (by omega) 106 [.int .i64 p0.k, .int .i64 p0.n, .string (tx p0.s), .int .i64 p0.x, .int .i64 p0.y, .int .i64 p1.k, .int .i64 p1.n, .string (tx p1.s), .int .i64 p1.x, .int .i64 p1.y, .int .i64 p2.k, .int .i64 p2.n, .string (tx p2.s), .int .i64 p2.x, .int .i64 p2.y]
      exact (h).old hb
    clear hb HD3 HM3 HX3  HS
    have qP1 := HP4.out.blk.c 1 _ rfl
    have hlZ4 := HX4.out.blk.lt; have hlb := HD4.out.blk.lt
    have b1 := HD4.out.blk.c 1 _ rfl
    have b2 := HD4.out.beh y1 hy1l
    rw [HB2.out] at b2
    by_cases h0 : p0.n = 0
    · have h1 : (p0.n == 0) = true := by simpa using h0
      have H0 := Lib.hid h0; clear h0
      have HCC := Lib.hid (HC2.out S1 n1 ov1 w4 HD4.out HGD.out)
      go_wp2_with (fail)
      refine HCC.out.mono ?_
      rintro e w5 ⟨v, x, S2, n2, ov2, rfl, ha5, hd5, hm5⟩
      have HA5 := Lib.hid ha5; have HD5 := Lib.hid hd5; have HM5 := Lib.hid (HM4.out.trans hm5); have HX5 := Lib.hid (HX4.out.mv hm5)
      clear ha5 hd5 hm5 HD4 HM4 HX4 HP4 b1 b2 HCC qP1
      have cX0 := HX5.out.blk.c 0 _ rfl; have zX0 := HX5.out.blk.f 0 _ rfl
      have cX1 := HX5.out.blk.c 1 _ rfl; have zX1 := HX5.out.blk.f 1 _ rfl
      have cX2 := HX5.out.blk.c 2 _ rfl; have zX2 := HX5.out.blk.f 2 _ rfl
      have cX3 := HX5.out.blk.c 3 _ rfl; have zX3 := HX5.out.blk.f 3 _ rfl
      have cX4 := HX5.out.blk.c 4 _ rfl; have zX4 := HX5.out.blk.f 4 _ rfl
      have hltX := HX5.out.blk.lt
      go_wp2_with (fail)
      have hd9 := (HD5.out.puts HX5.out 0 [.int .i64 v.k, .int .i64 v.n, .string (tx v.s), .int .i64 v.x, .int .i64 v.y])
      have hm9 := (Mv.puts (B := w.heap.size) HM5.out (by omega) 0 [.int .i64 v.k, .int .i64 v.n, .string (tx v.s), .int .i64 v.x, .int .i64 v.y])
      have hxX := (Box.puts (HX5.out) [.int .i64 v.k, .int .i64 v.n, .string (tx v.s), .int .i64 v.x, .int .i64 v.y] rfl)
      clear cX0 zX0 cX1 zX1 cX2 zX2 cX3 zX3 cX4 zX4 HD5 HM5 HX5 
      change bodyPost _ _ _ _ _ (((((w5.setCell ⟨w.heap.size, 0, none⟩ (.int .i64 v.k)).setCell ⟨w.heap.size, 1, none⟩ (.int .i64 v.n)).setCell ⟨w.heap.size, 2, none⟩ (.string (tx v.s))).setCell ⟨w.heap.size, 3, none⟩ (.int .i64 v.x)).setCell ⟨w.heap.size, 4, none⟩ (.int .i64 v.y))
      change Doer _ _ _ _ _ _ _ _ _ ((((((w5.setCell ⟨w.heap.size, 0, none⟩ (.int .i64 v.k)).setCell ⟨w.heap.size, 1, none⟩ (.int .i64 v.n)).setCell ⟨w.heap.size, 2, none⟩ (.string (tx v.s))).setCell ⟨w.heap.size, 3, none⟩ (.int .i64 v.x)).setCell ⟨w.heap.size, 4, none⟩ (.int .i64 v.y))) at hd9
      change Mv _ _ _ _ ((((((w5.setCell ⟨w.heap.size, 0, none⟩ (.int .i64 v.k)).setCell ⟨w.heap.size, 1, none⟩ (.int .i64 v.n)).setCell ⟨w.heap.size, 2, none⟩ (.string (tx v.s))).setCell ⟨w.heap.size, 3, none⟩ (.int .i64 v.x)).setCell ⟨w.heap.size, 4, none⟩ (.int .i64 v.y))) at hm9
      change Box _ _ _ _ _ _ ((((((w5.setCell ⟨w.heap.size, 0, none⟩ (.int .i64 v.k)).setCell ⟨w.heap.size, 1, none⟩ (.int .i64 v.n)).setCell ⟨w.heap.size, 2, none⟩ (.string (tx v.s))).setCell ⟨w.heap.size, 3, none⟩ (.int .i64 v.x)).setCell ⟨w.heap.size, 4, none⟩ (.int .i64 v.y))) at hxX
      generalize ((((((w5.setCell ⟨w.heap.size, 0, none⟩ (.int .i64 v.k)).setCell ⟨w.heap.size, 1, none⟩ (.int .i64 v.n)).setCell ⟨w.heap.size, 2, none⟩ (.string (tx v.s))).setCell ⟨w.heap.size, 3, none⟩ (.int .i64 v.x)).setCell ⟨w.heap.size, 4, none⟩ (.int .i64 v.y))) = w9 at *
      have cX0 := hxX.blk.c 0 _ rfl
      have cX1 := hxX.blk.c 1 _ rfl
      have cX2 := hxX.blk.c 2 _ rfl
      have cX3 := hxX.blk.c 3 _ rfl
      have cX4 := hxX.blk.c 4 _ rfl
      refine bodyPost_ret (v := .tuple #[.agg #[.int .i64 v.k, .int .i64 v.n, .string (tx v.s), .int .i64 v.x, .int .i64 v.y], .int .i64 x]) (by simp [results, Tryz.results45, go_sem, cX0, cX1, cX2, cX3, cX4]) rfl ⟨v, x, S2, n2, ov2, rfl, by rw [HBD.out, bnd_ok HXX.out, chs_at, HN1.out, HN2.out]; obtain ⟨rfl, rfl, rfl⟩ := HAA.out; rw [if_pos H0.out]; exact HA5.out, hd9, hm9⟩
    · have h1 : (p0.n == 0) = false := by simpa using h0
      have H0 := Lib.hid h0; clear h0
      have HCC := Lib.hid (HC1.out S1 n1 ov1 w4 HD4.out HGD.out)
      go_wp2_with (fail)
      refine HCC.out.mono ?_
      rintro e w5 ⟨v, x, S2, n2, ov2, rfl, ha5, hd5, hm5⟩
      have HA5 := Lib.hid ha5; have HD5 := Lib.hid hd5; have HM5 := Lib.hid (HM4.out.trans hm5); have HX5 := Lib.hid (HX4.out.mv hm5)
      clear ha5 hd5 hm5 HD4 HM4 HX4 HP4 b1 b2 HCC qP1
      have cX0 := HX5.out.blk.c 0 _ rfl; have zX0 := HX5.out.blk.f 0 _ rfl
      have cX1 := HX5.out.blk.c 1 _ rfl; have zX1 := HX5.out.blk.f 1 _ rfl
      have cX2 := HX5.out.blk.c 2 _ rfl; have zX2 := HX5.out.blk.f 2 _ rfl
      have cX3 := HX5.out.blk.c 3 _ rfl; have zX3 := HX5.out.blk.f 3 _ rfl
      have cX4 := HX5.out.blk.c 4 _ rfl; have zX4 := HX5.out.blk.f 4 _ rfl
      have hltX := HX5.out.blk.lt
      go_wp2_with (fail)
      have hd9 := (HD5.out.puts HX5.out 0 [.int .i64 v.k, .int .i64 v.n, .string (tx v.s), .int .i64 v.x, .int .i64 v.y])
      have hm9 := (Mv.puts (B := w.heap.size) HM5.out (by omega) 0 [.int .i64 v.k, .int .i64 v.n, .string (tx v.s), .int .i64 v.x, .int .i64 v.y])
      have hxX := (Box.puts (HX5.out) [.int .i64 v.k, .int .i64 v.n, .string (tx v.s), .int .i64 v.x, .int .i64 v.y] rfl)
      clear cX0 zX0 cX1 zX1 cX2 zX2 cX3 zX3 cX4 zX4 HD5 HM5 HX5 
      change bodyPost _ _ _ _ _ (((((w5.setCell ⟨w.heap.size, 0, none⟩ (.int .i64 v.k)).setCell ⟨w.heap.size, 1, none⟩ (.int .i64 v.n)).setCell ⟨w.heap.size, 2, none⟩ (.string (tx v.s))).setCell ⟨w.heap.size, 3, none⟩ (.int .i64 v.x)).setCell ⟨w.heap.size, 4, none⟩ (.int .i64 v.y))
      change Doer _ _ _ _ _ _ _ _ _ ((((((w5.setCell ⟨w.heap.size, 0, none⟩ (.int .i64 v.k)).setCell ⟨w.heap.size, 1, none⟩ (.int .i64 v.n)).setCell ⟨w.heap.size, 2, none⟩ (.string (tx v.s))).setCell ⟨w.heap.size, 3, none⟩ (.int .i64 v.x)).setCell ⟨w.heap.size, 4, none⟩ (.int .i64 v.y))) at hd9
      change Mv _ _ _ _ ((((((w5.setCell ⟨w.heap.size, 0, none⟩ (.int .i64 v.k)).setCell ⟨w.heap.size, 1, none⟩ (.int .i64 v.n)).setCell ⟨w.heap.size, 2, none⟩ (.string (tx v.s))).setCell ⟨w.heap.size, 3, none⟩ (.int .i64 v.x)).setCell ⟨w.heap.size, 4, none⟩ (.int .i64 v.y))) at hm9
      change Box _ _ _ _ _ _ ((((((w5.setCell ⟨w.heap.size, 0, none⟩ (.int .i64 v.k)).setCell ⟨w.heap.size, 1, none⟩ (.int .i64 v.n)).setCell ⟨w.heap.size, 2, none⟩ (.string (tx v.s))).setCell ⟨w.heap.size, 3, none⟩ (.int .i64 v.x)).setCell ⟨w.heap.size, 4, none⟩ (.int .i64 v.y))) at hxX
      generalize ((((((w5.setCell ⟨w.heap.size, 0, none⟩ (.int .i64 v.k)).setCell ⟨w.heap.size, 1, none⟩ (.int .i64 v.n)).setCell ⟨w.heap.size, 2, none⟩ (.string (tx v.s))).setCell ⟨w.heap.size, 3, none⟩ (.int .i64 v.x)).setCell ⟨w.heap.size, 4, none⟩ (.int .i64 v.y))) = w9 at *
      have cX0 := hxX.blk.c 0 _ rfl
      have cX1 := hxX.blk.c 1 _ rfl
      have cX2 := hxX.blk.c 2 _ rfl
      have cX3 := hxX.blk.c 3 _ rfl
      have cX4 := hxX.blk.c 4 _ rfl
      refine bodyPost_ret (v := .tuple #[.agg #[.int .i64 v.k, .int .i64 v.n, .string (tx v.s), .int .i64 v.x, .int .i64 v.y], .int .i64 x]) (by simp [results, Tryz.results45, go_sem, cX0, cX1, cX2, cX3, cX4]) rfl ⟨v, x, S2, n2, ov2, rfl, by rw [HBD.out, bnd_ok HXX.out, chs_at, HN1.out]; obtain ⟨rfl, rfl, rfl⟩ := HAA.out; rw [if_neg H0.out]; exact HA5.out, hd9, hm9⟩
end Go.Proofs.YtcdjincaedpodaaGreatDoor.Ev
/-
  Let (written by gen_evalike.py).
-/
namespace Go.Proofs.YtcdjincaedpodaaGreatDoor.Ev
open Go.ChangeShapes Go.WideShapes Go.ChangeAt Go.RowKit Go.Proofs.YtcdjincaedpodaaGreatDoor.Ov Go.Proofs.YtcdjincaedpodaaGreatDoor.Va Go.Proofs.YtcdjincaedpodaaGreatDoor.Ga Go.Proofs.YtcdjincaedpodaaGreatDoor.Ex

theorem body_let (f : List No → M Va) (n : No) (r : List No) (h : n.o = 29) : body f n r = bnd (prt f [-1] r) (fun a => withIt (at0 a) (f (nx r))) := by
  unfold body
  rw [if_neg (by omega), if_neg (by omega), if_neg (by omega), if_neg (by omega), if_pos h, prt_one]
  congr 1
theorem withIt_ans {f : M Va} {v : Va} {S S2 : St} {n n2 : Nat} {P : Va → Prop} {x : Int} (h : Ans (f { S with it := v } n) P x S2 n2) : Ans (withIt v f S n) P x { S2 with it := S.it } n2 := by
  unfold withIt
  rcases h.cases with ⟨h0, e⟩ | ⟨h0, a, ha, e⟩
  · rw [e]; exact ⟨rfl, h0⟩
  · rw [e]; exact ⟨h0, ha, rfl, rfl⟩
set_option maxRecDepth 100000 in
set_option maxHeartbeats 2000000 in
theorem deed_let {d : Nat} (HD : DoC (ev d) d) : DeedC d 29 63 := by
  intro w0 A c E b l S n ov w k r hcx hd hg hkl ho hrn hx hd24
  have HBD : Hid (body (ev d) (nd l k) (l.drop (k + 1)) S n = bnd (prt (ev d) [-1] (l.drop (k + 1))) (fun a => withIt (at0 a) (ev d (nx (l.drop (k + 1))))) S n) := by show _ = _; exact congrFun (congrFun (body_let _ _ _ ho) S) n
  have HP := Lib.hid (pre_any HD [-1] (by decide) (by decide) (by decide) hcx hd hg hkl hx (by decide) hd24)
  have hx3 := hx
  change it (ex d) 2 (l.drop (k + 1)) = some r at hx3
  rw [it_succ] at hx3
  obtain ⟨r1, x1, hx3⟩ := Option.bind_eq_some_iff.1 hx3
  rw [it_succ] at hx3
  obtain ⟨r2, x2, hx3⟩ := Option.bind_eq_some_iff.1 hx3
  obtain ⟨g1, g2, g3⟩ := ex_drop_len x1 (by omega)
  obtain ⟨y1, hy1⟩ : ∃ y1, l.length - r1.length = y1 := ⟨_, rfl⟩
  rw [hy1] at g1 g2
  rw [g1] at x2
  obtain ⟨g4, g5, g6⟩ := ex_drop_len x2 (by omega)
  have hl := hcx.len
  have HB1 : Hid (l.length - (nx (l.drop (k + 1))).length = y1) := by show _ = _; rw [nx_of x1 (by omega)]; exact hy1
  have HN1 : Hid (nx (l.drop (k + 1)) = l.drop y1) := by show _ = _; rw [nx_of x1 (by omega)]; exact g1
  have HC1 := Lib.hid (fun S1 n1 ov1 w3 hd3 hg3 => HD w0 A c E b l S1 n1 ov1 w3 y1 r2 hcx hd3 hg3 x2 (by omega))
  have HGE := Lib.hid (ev_good d (by omega) _ _ x2)
  have hk1 : k + 1 < l.length := by omega
  have hy1l : y1 < l.length := by omega
  clear hx3 x1 x2 g1 g2 g3 g4 g5 g6 hy1
  clear hcx hd hg ho hrn hx hd24 HD
  go_enter_defers Tryz.func63, Tryz.ntmps63
  go_wp2_with (fail)
  refine (HP.out).mono ?_
  rintro e w3 ⟨p0, p1, p2, x, S1, n1, ov1, rfl, ha, r0, r1, r2, hgd, hd3, hm3, hx3⟩
  have HA := Lib.hid ha; have R0 := Lib.hid r0; have R1 := Lib.hid r1; have R2 := Lib.hid r2; have HG := Lib.hid hgd; have HD3 := Lib.hid hd3; have HM3 := Lib.hid hm3; have HX3 := Lib.hid hx3
  have hlZ := hx3.blk.lt
  clear ha r0 r1 r2 hgd hd3 hm3 hx3 HP
  rcases HA.out.cases with ⟨hx0, hX⟩ | ⟨rfl, a, ha, hX⟩
  · have HX0 := Lib.hid hx0; have HXX := Lib.hid hX
    have hx1 : (x == 0) = false := by simpa using hx0
    have hx2 : (x != 0) = true := by simpa using hx0
    clear hx0 hX HA
    have cX0 := HX3.out.blk.c 0 _ rfl; have zX0 := HX3.out.blk.f 0 _ rfl
    have cX1 := HX3.out.blk.c 1 _ rfl; have zX1 := HX3.out.blk.f 1 _ rfl
    have cX2 := HX3.out.blk.c 2 _ rfl; have zX2 := HX3.out.blk.f 2 _ rfl
    have cX3 := HX3.out.blk.c 3 _ rfl; have zX3 := HX3.out.blk.f 3 _ rfl
    have cX4 := HX3.out.blk.c 4 _ rfl; have zX4 := HX3.out.blk.f 4 _ rfl
    have hltX := HX3.out.blk.lt
    go_wp2_with (fail)
    have hd9 := ((HD3.out.puts HX3.out 0 [.int .i64 0, .int .i64 0, .string ⟨#[]⟩, .int .i64 0, .int .i64 0]).old (box1 _ (.cells #[.int .i64 p0.k, .int .i64 p0.n, .string (tx p0.s), .int .i64 p0.x, .int .i64 p0.y, .int .i64 p1.k, .int .i64 p1.n, .string (tx p1.s), .int .i64 p1.x, .int .i64 p1.y, .int .i64 p2.k, .int .i64 p2.n, .string (tx p2.s), .int .i64 p2.x, .int .i64 p2.y] 106)))
    have hm9 := ((Mv.puts (B := w.heap.size) HM3.out (by omega) 0 [.int .i64 0, .int .i64 0, .string ⟨#[]⟩, .int .i64 0, .int .i64 0]).old (box1 _ (.cells #[.int .i64 p0.k, .int .i64 p0.n, .string (tx p0.s), .int .i64 p0.x, .int .i64 p0.y, .int .i64 p1.k, .int .i64 p1.n, .string (tx p1.s), .int .i64 p1.x, .int .i64 p1.y, .int .i64 p2.k, .int .i64 p2.n, .string (tx p2.s), .int .i64 p2.x, .int .i64 p2.y] 106)))
    have hxX := ((Box.puts (HX3.out) [.int .i64 0, .int .i64 0, .string ⟨#[]⟩, .int .i64 0, .int .i64 0] rfl).old (box1 _ (.cells #[.int .i64 p0.k, .int .i64 p0.n, .string (tx p0.s), .int .i64 p0.x, .int .i64 p0.y, .int .i64 p1.k, .int .i64 p1.n, .string (tx p1.s), .int .i64 p1.x, .int .i64 p1.y, .int .i64 p2.k, .int .i64 p2.n, .string (tx p2.s), .int .i64 p2.x, .int .i64 p2.y] 106)))
    clear cX0 zX0 cX1 zX1 cX2 zX2 cX3 zX3 cX4 zX4 HD3 HM3 HX3 
    change bodyPostD _ _ _ _ _ ((((((w3.setCell ⟨w.heap.size, 0, none⟩ (.int .i64 0)).setCell ⟨w.heap.size, 1, none⟩ (.int .i64 0)).setCell ⟨w.heap.size, 2, none⟩ (.string ⟨#[]⟩)).setCell ⟨w.heap.size, 3, none⟩ (.int .i64 0)).setCell ⟨w.heap.size, 4, none⟩ (.int .i64 0)).alloc (.cells #[.int .i64 p0.k, .int .i64 p0.n, .string (tx p0.s), .int .i64 p0.x, .int .i64 p0.y, .int .i64 p1.k, .int .i64 p1.n, .string (tx p1.s), .int .i64 p1.x, .int .i64 p1.y, .int .i64 p2.k, .int .i64 p2.n, .string (tx p2.s), .int .i64 p2.x, .int .i64 p2.y] 106))
    change Doer _ _ _ _ _ _ _ _ _ (((((((w3.setCell ⟨w.heap.size, 0, none⟩ (.int .i64 0)).setCell ⟨w.heap.size, 1, none⟩ (.int .i64 0)).setCell ⟨w.heap.size, 2, none⟩ (.string ⟨#[]⟩)).setCell ⟨w.heap.size, 3, none⟩ (.int .i64 0)).setCell ⟨w.heap.size, 4, none⟩ (.int .i64 0)).alloc (.cells #[.int .i64 p0.k, .int .i64 p0.n, .string (tx p0.s), .int .i64 p0.x, .int .i64 p0.y, .int .i64 p1.k, .int .i64 p1.n, .string (tx p1.s), .int .i64 p1.x, .int .i64 p1.y, .int .i64 p2.k, .int .i64 p2.n, .string (tx p2.s), .int .i64 p2.x, .int .i64 p2.y] 106))) at hd9
    change Mv _ _ _ _ (((((((w3.setCell ⟨w.heap.size, 0, none⟩ (.int .i64 0)).setCell ⟨w.heap.size, 1, none⟩ (.int .i64 0)).setCell ⟨w.heap.size, 2, none⟩ (.string ⟨#[]⟩)).setCell ⟨w.heap.size, 3, none⟩ (.int .i64 0)).setCell ⟨w.heap.size, 4, none⟩ (.int .i64 0)).alloc (.cells #[.int .i64 p0.k, .int .i64 p0.n, .string (tx p0.s), .int .i64 p0.x, .int .i64 p0.y, .int .i64 p1.k, .int .i64 p1.n, .string (tx p1.s), .int .i64 p1.x, .int .i64 p1.y, .int .i64 p2.k, .int .i64 p2.n, .string (tx p2.s), .int .i64 p2.x, .int .i64 p2.y] 106))) at hm9
    change Box _ _ _ _ _ _ (((((((w3.setCell ⟨w.heap.size, 0, none⟩ (.int .i64 0)).setCell ⟨w.heap.size, 1, none⟩ (.int .i64 0)).setCell ⟨w.heap.size, 2, none⟩ (.string ⟨#[]⟩)).setCell ⟨w.heap.size, 3, none⟩ (.int .i64 0)).setCell ⟨w.heap.size, 4, none⟩ (.int .i64 0)).alloc (.cells #[.int .i64 p0.k, .int .i64 p0.n, .string (tx p0.s), .int .i64 p0.x, .int .i64 p0.y, .int .i64 p1.k, .int .i64 p1.n, .string (tx p1.s), .int .i64 p1.x, .int .i64 p1.y, .int .i64 p2.k, .int .i64 p2.n, .string (tx p2.s), .int .i64 p2.x, .int .i64 p2.y] 106))) at hxX
    generalize (((((((w3.setCell ⟨w.heap.size, 0, none⟩ (.int .i64 0)).setCell ⟨w.heap.size, 1, none⟩ (.int .i64 0)).setCell ⟨w.heap.size, 2, none⟩ (.string ⟨#[]⟩)).setCell ⟨w.heap.size, 3, none⟩ (.int .i64 0)).setCell ⟨w.heap.size, 4, none⟩ (.int .i64 0)).alloc (.cells #[.int .i64 p0.k, .int .i64 p0.n, .string (tx p0.s), .int .i64 p0.x, .int .i64 p0.y, .int .i64 p1.k, .int .i64 p1.n, .string (tx p1.s), .int .i64 p1.x, .int .i64 p1.y, .int .i64 p2.k, .int .i64 p2.n, .string (tx p2.s), .int .i64 p2.x, .int .i64 p2.y] 106))) = w9 at *
    have cX0 := hxX.blk.c 0 _ rfl
    have cX1 := hxX.blk.c 1 _ rfl
    have cX2 := hxX.blk.c 2 _ rfl
    have cX3 := hxX.blk.c 3 _ rfl
    have cX4 := hxX.blk.c 4 _ rfl
    refine ⟨.tuple #[.agg #[.int .i64 0, .int .i64 0, .string ⟨#[]⟩, .int .i64 0, .int .i64 0], .int .i64 x], by simp [results, Tryz.results63, go_sem, cX0, cX1, cX2, cX3, cX4], ⟨vz, x, S1, n1, ov1, rfl, by rw [HBD.out]; exact Ans.er (bnd_er HXX.out) rfl HX0.out, hd9, hm9⟩⟩
  · have HXX := Lib.hid hX; have HAA := Lib.hid ha; have HGD := Lib.hid (HG.out rfl)
    clear hX ha HA HG
    have hlb3 := HD3.out.blk.lt
    have d0 := HD3.out.blk.c 52 _ rfl
    have d1 := HD3.out.blk.c 53 _ rfl
    have d2 := HD3.out.blk.c 54 _ rfl
    have d3 := HD3.out.blk.c 55 _ rfl
    have d4 := HD3.out.blk.c 56 _ rfl
    go_wp2_with (fail)
    have HS := Lib.hid (stand4_any _ p0 (HD3.out.old (box1 w3 (.cells #[.int .i64 p0.k, .int .i64 p0.n, .string (tx p0.s), .int .i64 p0.x, .int .i64 p0.y, .int .i64 p1.k, .int .i64 p1.n, .string (tx p1.s), .int .i64 p1.x, .int .i64 p1.y, .int .i64 p2.k, .int .i64 p2.n, .string (tx p2.s), .int .i64 p2.x, .int .i64 p2.y] 106))))
    refine (HS.out).mono ?_
    rintro e w4 ⟨rfl, hd4, hm4⟩
    have HD4 := Lib.hid hd4; have HX4 := Lib.hid ((HX3.out.old (box1 w3 (.cells #[.int .i64 p0.k, .int .i64 p0.n, .string (tx p0.s), .int .i64 p0.x, .int .i64 p0.y, .int .i64 p1.k, .int .i64 p1.n, .string (tx p1.s), .int .i64 p1.x, .int .i64 p1.y, .int .i64 p2.k, .int .i64 p2.n, .string (tx p2.s), .int .i64 p2.x, .int .i64 p2.y] 106))).mv hm4); have HM4 := Lib.hid ((HM3.out.old (box1 w3 (.cells #[.int .i64 p0.k, .int .i64 p0.n, .string (tx p0.s), .int .i64 p0.x, .int .i64 p0.y, .int .i64 p1.k, .int .i64 p1.n, .string (tx p1.s), .int .i64 p1.x, .int .i64 p1.y, .int .i64 p2.k, .int .i64 p2.n, .string (tx p2.s), .int .i64 p2.x, .int .i64 p2.y] 106))).trans hm4)
    clear hd4 hm4 HD3 HX3 HM3 HS d0 d1 d2 d3 d4
    have HS := Lib.hid (second_any _ k HD4.out hk1 hl)
    rw [HB1.out] at HS
    go_wp2_with (fail)
    refine (HS.out).mono ?_
    rintro e w5 ⟨rfl, hb⟩
    have HD5 := Lib.hid (HD4.out.old hb)
    have HM5 := Lib.hid (HM4.out.old hb)
    have HX5 := Lib.hid (HX4.out.old hb)
    clear hb HD4 HM4 HX4  HS
    have HCC := Lib.hid (HC1.out _ n1 ov1 w5 HD5.out ⟨HGD.out.key, HGD.out.val, HGD.out.acc, HGD.out.i, R0.out, HGD.out.out, HGD.out.fuel⟩)
    go_wp2_with (fail)
    refine HCC.out.mono ?_
    rintro e w6 ⟨v, x, S2, n2, ov2, rfl, ha6, hd6, hm6⟩
    have HA6 := Lib.hid ha6; have HD6 := Lib.hid hd6; have HM6 := Lib.hid (HM5.out.trans hm6); have HX6 := Lib.hid (HX5.out.mv hm6)
    clear ha6 hd6 hm6 HD5 HM5 HX5 HCC 
    have cX0 := HX6.out.blk.c 0 _ rfl; have zX0 := HX6.out.blk.f 0 _ rfl
    have cX1 := HX6.out.blk.c 1 _ rfl; have zX1 := HX6.out.blk.f 1 _ rfl
    have cX2 := HX6.out.blk.c 2 _ rfl; have zX2 := HX6.out.blk.f 2 _ rfl
    have cX3 := HX6.out.blk.c 3 _ rfl; have zX3 := HX6.out.blk.f 3 _ rfl
    have cX4 := HX6.out.blk.c 4 _ rfl; have zX4 := HX6.out.blk.f 4 _ rfl
    have hltX := HX6.out.blk.lt
    go_wp2_with (fail)
    have hd9 := (HD6.out.puts HX6.out 0 [.int .i64 v.k, .int .i64 v.n, .string (tx v.s), .int .i64 v.x, .int .i64 v.y])
    have hm9 := (Mv.puts (B := w.heap.size) HM6.out (by omega) 0 [.int .i64 v.k, .int .i64 v.n, .string (tx v.s), .int .i64 v.x, .int .i64 v.y])
    have hxX := (Box.puts (HX6.out) [.int .i64 v.k, .int .i64 v.n, .string (tx v.s), .int .i64 v.x, .int .i64 v.y] rfl)
    clear cX0 zX0 cX1 zX1 cX2 zX2 cX3 zX3 cX4 zX4 HD6 HM6 HX6 
    change bodyPostD _ _ _ _ _ (((((w6.setCell ⟨w.heap.size, 0, none⟩ (.int .i64 v.k)).setCell ⟨w.heap.size, 1, none⟩ (.int .i64 v.n)).setCell ⟨w.heap.size, 2, none⟩ (.string (tx v.s))).setCell ⟨w.heap.size, 3, none⟩ (.int .i64 v.x)).setCell ⟨w.heap.size, 4, none⟩ (.int .i64 v.y))
    change Doer _ _ _ _ _ _ _ _ _ ((((((w6.setCell ⟨w.heap.size, 0, none⟩ (.int .i64 v.k)).setCell ⟨w.heap.size, 1, none⟩ (.int .i64 v.n)).setCell ⟨w.heap.size, 2, none⟩ (.string (tx v.s))).setCell ⟨w.heap.size, 3, none⟩ (.int .i64 v.x)).setCell ⟨w.heap.size, 4, none⟩ (.int .i64 v.y))) at hd9
    change Mv _ _ _ _ ((((((w6.setCell ⟨w.heap.size, 0, none⟩ (.int .i64 v.k)).setCell ⟨w.heap.size, 1, none⟩ (.int .i64 v.n)).setCell ⟨w.heap.size, 2, none⟩ (.string (tx v.s))).setCell ⟨w.heap.size, 3, none⟩ (.int .i64 v.x)).setCell ⟨w.heap.size, 4, none⟩ (.int .i64 v.y))) at hm9
    change Box _ _ _ _ _ _ ((((((w6.setCell ⟨w.heap.size, 0, none⟩ (.int .i64 v.k)).setCell ⟨w.heap.size, 1, none⟩ (.int .i64 v.n)).setCell ⟨w.heap.size, 2, none⟩ (.string (tx v.s))).setCell ⟨w.heap.size, 3, none⟩ (.int .i64 v.x)).setCell ⟨w.heap.size, 4, none⟩ (.int .i64 v.y))) at hxX
    generalize ((((((w6.setCell ⟨w.heap.size, 0, none⟩ (.int .i64 v.k)).setCell ⟨w.heap.size, 1, none⟩ (.int .i64 v.n)).setCell ⟨w.heap.size, 2, none⟩ (.string (tx v.s))).setCell ⟨w.heap.size, 3, none⟩ (.int .i64 v.x)).setCell ⟨w.heap.size, 4, none⟩ (.int .i64 v.y))) = w9 at *
    have cX0 := hxX.blk.c 0 _ rfl
    have cX1 := hxX.blk.c 1 _ rfl
    have cX2 := hxX.blk.c 2 _ rfl
    have cX3 := hxX.blk.c 3 _ rfl
    have cX4 := hxX.blk.c 4 _ rfl
    refine leaves_cons (f := 103) (args := #[.pointer (some ⟨b, 0, none⟩), .int .i64 4, .agg #[.int .i64 S1.it.k, .int .i64 S1.it.n, .string (tx S1.it.s), .int .i64 S1.it.x, .int .i64 S1.it.y]]) (by simp) (by simp [go_sem]) ?_
    refine (stand4_def w9 S1.it hd9 .returning).mono ?_
    rintro e u w10 ⟨rfl, rfl, hd10, hm10⟩
    have hx10 := hxX.mv hm10
    have kX0 := hx10.blk.c 0 _ rfl; have kX1 := hx10.blk.c 1 _ rfl; have kX2 := hx10.blk.c 2 _ rfl; have kX3 := hx10.blk.c 3 _ rfl; have kX4 := hx10.blk.c 4 _ rfl
    refine ⟨.tuple #[.agg #[.int .i64 v.k, .int .i64 v.n, .string (tx v.s), .int .i64 v.x, .int .i64 v.y], .int .i64 x], by simp [results, Tryz.results63, go_sem, kX0, kX1, kX2, kX3, kX4], ⟨v, x, { S2 with it := S1.it }, n2, ov2, rfl, by rw [HBD.out, bnd_ok HXX.out, HN1.out]; obtain ⟨rfl, rfl, rfl⟩ := HAA.out; exact withIt_ans HA6.out, hd10, hm9.trans hm10⟩⟩
end Go.Proofs.YtcdjincaedpodaaGreatDoor.Ev

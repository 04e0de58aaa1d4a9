/-
  Small texts of this claim, together: EvDeed3, EvAll.
-/
import Derived.Test.YtimllihegnokeaaGreatDoorQEvDeed2
import Derived.Test.YtimllihegnokeaaGreatDoorQ5
import Derived.Deep.QuietTactic
import Derived.BigQuiet
import Derived.Test.YtimllihegnokeaaGreatDoorQEvDeed4
import Derived.Test.YtimllihegnokeaaGreatDoorQEvDeed5
import Derived.Test.YtimllihegnokeaaGreatDoorQEvDeed6
import Derived.Test.YtimllihegnokeaaGreatDoorQ8
import Derived.Test.YtimllihegnokeaaGreatDoorQEvDeed8
import Derived.Test.YtimllihegnokeaaGreatDoorQEvDeed9
import Derived.Test.YtimllihegnokeaaGreatDoorQ7
import Derived.Deep.MidRow
import Derived.Deep.WholeRow
namespace Go.Proofs.YtimllihegnokeaaGreatDoor.Ev
open Go.ChangeShapes Go.WideShapes Go.ChangeAt Go.RowKit Ov Va Ga Ex
set_option maxRecDepth 100000 in
set_option maxHeartbeats 1000000 in
theorem deed_num {d : Nat} (HD : DoC (ev d) d) : DeedC d 19 156 := by
 intro w0 A c E b l S n ov w k r hcx hd hg hkl ho hrn hx hd24
 have HBD : Hid (body (ev d) (nd l k) (l.drop (k + 1)) S n = bnd (prt (ev d) [1] (l.drop (k + 1))) (af 19) S n) := by show _ = _; exact congrFun (congrFun (body_prt ho (by decide) (by decide) (by decide) (by decide) (by decide) (by decide)) S) n
 have HP := Lib.hid (pre_any HD [1] (by decide) (by decide) (by decide) hcx hd hg hkl hx (by decide) hd24)
 clear hcx hd hg ho hrn hx hd24 HD
 go_enter Tryz.func156, Tryz.ntmps156
 go_wp2_with (fail)
 refine (HP.out).mono ?_
 rintro e w3 ⟨p0, p1, p2, x, S1, n1, ov1, rfl, ha, r0, r1, r2, hgd, hd3, hm3, hx3⟩
 have HA := Lib.hid ha; have R0 := Lib.hid r0; have R1 := Lib.hid r1; have R2 := Lib.hid r2; have HG := Lib.hid hgd; have HD3 := Lib.hid hd3; have HM3 := Lib.hid hm3; have HX3 := Lib.hid hx3
 have HPB : Hid (Box w0 b E ov1 w3.heap.size [.int .i64 p0.k, .int .i64 p0.n, .string (tx p0.s), .int .i64 p0.x, .int .i64 p0.y, .int .i64 p1.k, .int .i64 p1.n, .string (tx p1.s), .int .i64 p1.x, .int .i64 p1.y, .int .i64 p2.k, .int .i64 p2.n, .string (tx p2.s), .int .i64 p2.x, .int .i64 p2.y] (w3.alloc (.cells #[.int .i64 p0.k, .int .i64 p0.n, .string (tx p0.s), .int .i64 p0.x, .int .i64 p0.y, .int .i64 p1.k, .int .i64 p1.n, .string (tx p1.s), .int .i64 p1.x, .int .i64 p1.y, .int .i64 p2.k, .int .i64 p2.n, .string (tx p2.s), .int .i64 p2.x, .int .i64 p2.y] 217))) := Box.made hd3 (by omega) 217 [.int .i64 p0.k, .int .i64 p0.n, .string (tx p0.s), .int .i64 p0.x, .int .i64 p0.y, .int .i64 p1.k, .int .i64 p1.n, .string (tx p1.s), .int .i64 p1.x, .int .i64 p1.y, .int .i64 p2.k, .int .i64 p2.n, .string (tx p2.s), .int .i64 p2.x, .int .i64 p2.y]
 have hlZ := hx3.blk.lt
 clear ha r0 r1 r2 hgd hd3 hm3 hx3 HP
 rcases HA.out.cases with ⟨hx0, hX⟩ | ⟨rfl, a, ha, hX⟩
 · have HX0 := Lib.hid hx0; have HXX := Lib.hid hX
   have hx1 : (x == 0) = false := by simpa using hx0
   have hx2 : (x != 0) = true := by simpa using hx0
   clear hx0 hX HA 
   obtain ⟨c0, c1, c2, c3, c4, z0, z1, z2, z3, z4, hltX9⟩ := HX3.out.fiv
   go_wp2_with (fail)
   refine denda (P := bodyPost _ _ _ _ _) HD3.out HM3.out HX3.out (Nat.le_refl _) _ _ _ _ _ ?_
   clear hltX9 c0 c1 c2 c3 c4 z0 z1 z2 z3 z4 HD3 HM3 HX3
   intro w9 hd9 hm9 c0 c1 c2 c3 c4
   refine bodyPost_ret (v := .tuple #[.agg zz, .int .i64 x]) (by simp [results, Tryz.results156, go_sem, c0, c1, c2, c3, c4]) rfl ⟨vz, x, S1, n1, ov1, rfl, by rw [HBD.out]; exact Ans.er (bnd_er HXX.out) rfl HX0.out, hd9, hm9⟩
 · have HXX := Lib.hid hX; have HAA := Lib.hid ha; have HGD := Lib.hid (HG.out rfl)
   clear hX ha HA HG
   have h0 := (rt_all R0.out).2.1
   rw [← tx_size] at h0
   have HN := Lib.hid (parse_any (tx p0.s))
   have HZ : Hid (numOf p0.s = if (pz p0.s).2.2 = 0 ∧ (pz p0.s).2.1 = p0.s.length ∧ (pz p0.s).1.k = 0 then .inr (pz p0.s).1 else .inl 6) := Lib.hid rfl
   have hzl : (pz p0.s).2.2 = 0 → (pz p0.s).2.1 ≤ p0.s.length := fun h => by
    have := pz_ok (l := p0.s) (v := (pz p0.s).1) (z := (pz p0.s).2.1) (Prod.ext rfl (Prod.ext rfl h))
    have h1 := congrArg List.length this.2.1
    rw [List.length_append] at h1
    omega
   rw [tx_list] at HN
   generalize pz p0.s = r at *
   obtain ⟨v, z, ec⟩ := r
   unfold prv vv at HN
   dsimp only at HN HZ hzl
   have HZL := Lib.hid hzl
   clear hzl
   go_wp2_with (fail)
   refine (HN.out _ (by omega)).mono ?_
   rintro e w4 ⟨rfl, hb⟩
   have HD4 := Lib.hid ((HD3.out.old (box1 w3 _)).old hb); have HM4 := Lib.hid ((HM3.out.old (box1 w3 _)).old hb); have HX4 := Lib.hid ((HX3.out.old (box1 w3 _)).old hb); have HPB4 := Lib.hid (HPB.out.old hb)
   clear hb HD3 HM3 HX3 HPB 
   obtain ⟨c0, c1, c2, c3, c4, z0, z1, z2, z3, z4, hltX9⟩ := HX4.out.fiv
   have q2 := HPB4.out.blk.c 2 _ rfl
   have hlz4 := HX4.out.blk.lt; have hpb4 := HPB4.out.blk.lt
   clear HPB4
   by_cases h1 : ec = 0
   · subst h1
     have he1 : (((0 : Nat) : Int) != 0) = false := by decide
     by_cases h2 : z < (tx p0.s).size
     · have HCC : Hid (¬ ((0 : Nat) = 0 ∧ z = p0.s.length ∧ v.k = 0)) := by show ¬ _; rintro ⟨_, h, _⟩; rw [tx_size] at h2; omega
       have hd2 : decide (z < (tx p0.s).size) = true := decide_eq_true h2
       go_wp2_with (fail)
       refine denda (P := bodyPost _ _ _ _ _) HD4.out HM4.out HX4.out (Nat.le_refl _) _ _ _ _ _ ?_
       clear hltX9 c0 c1 c2 c3 c4 z0 z1 z2 z3 z4 q2 HD4 HM4 HX4
       intro w9 hd9 hm9 c0 c1 c2 c3 c4
       refine bodyPost_ret (v := .tuple #[.agg zz, .int .i64 6]) (by simp [results, Tryz.results156, go_sem, c0, c1, c2, c3, c4]) rfl ⟨vz, 6, S1, n1, ov1, rfl, by rw [HBD.out]; obtain ⟨rfl, rfl, rfl⟩ := HAA.out; exact Ans.er (by rw [bnd_ok HXX.out]; show lift (numOf (at0 a).s) S1 n1 = _; rw [HZ.out, if_neg HCC.out]; rfl) rfl (by decide), hd9, hm9⟩
     · have hz1 : z = p0.s.length := by have := HZL.out rfl; rw [tx_size] at h2; omega
       have hd2 : decide (z < (tx p0.s).size) = false := decide_eq_false h2
       by_cases h3 : v.k = 0
       · have h4 : (v.k != 0) = false := by simpa using h3
         have HCC : Hid ((0 : Nat) = 0 ∧ z = p0.s.length ∧ v.k = 0) := ⟨rfl, hz1, h3⟩
         clear hz1 h3
         go_wp2_with (fail)
         refine denda (P := bodyPost _ _ _ _ _) HD4.out HM4.out HX4.out (Nat.le_refl _) _ _ _ _ _ ?_
         clear hltX9 c0 c1 c2 c3 c4 z0 z1 z2 z3 z4 q2 HD4 HM4 HX4
         intro w9 hd9 hm9 c0 c1 c2 c3 c4
         refine bodyPost_ret (v := .tuple #[.agg v, .int .i64 0]) (by simp [results, Tryz.results156, go_sem, c0, c1, c2, c3, c4]) rfl ⟨v, 0, S1, n1, ov1, rfl, by rw [HBD.out]; obtain ⟨rfl, rfl, rfl⟩ := HAA.out; exact Ans.ok (by rw [bnd_ok HXX.out]; show lift (numOf (at0 a).s) S1 n1 = _; rw [HZ.out, if_pos HCC.out]; rfl) rfl, hd9, hm9⟩
       · have h4 : (v.k != 0) = true := by simpa using h3
         have HCC : Hid (¬ ((0 : Nat) = 0 ∧ z = p0.s.length ∧ v.k = 0)) := by show ¬ _; rintro ⟨_, _, h⟩; exact h3 h
         clear hz1 h3
         go_wp2_with (fail)
         refine denda (P := bodyPost _ _ _ _ _) HD4.out HM4.out HX4.out (Nat.le_refl _) _ _ _ _ _ ?_
         clear hltX9 c0 c1 c2 c3 c4 z0 z1 z2 z3 z4 q2 HD4 HM4 HX4
         intro w9 hd9 hm9 c0 c1 c2 c3 c4
         refine bodyPost_ret (v := .tuple #[.agg zz, .int .i64 6]) (by simp [results, Tryz.results156, go_sem, c0, c1, c2, c3, c4]) rfl ⟨vz, 6, S1, n1, ov1, rfl, by rw [HBD.out]; obtain ⟨rfl, rfl, rfl⟩ := HAA.out; exact Ans.er (by rw [bnd_ok HXX.out]; show lift (numOf (at0 a).s) S1 n1 = _; rw [HZ.out, if_neg HCC.out]; rfl) rfl (by decide), hd9, hm9⟩
   · have he1 : ((ec : Int) != 0) = true := by rw [bne_iff_ne]; omega
     have HCC : Hid (¬ (ec = 0 ∧ z = p0.s.length ∧ v.k = 0)) := by show ¬ _; rintro ⟨h, _⟩; exact h1 h
     go_wp2_with (fail)
     refine denda (P := bodyPost _ _ _ _ _) HD4.out HM4.out HX4.out (Nat.le_refl _) _ _ _ _ _ ?_
     clear hltX9 c0 c1 c2 c3 c4 z0 z1 z2 z3 z4 q2 HD4 HM4 HX4
     intro w9 hd9 hm9 c0 c1 c2 c3 c4
     refine bodyPost_ret (v := .tuple #[.agg zz, .int .i64 6]) (by simp [results, Tryz.results156, go_sem, c0, c1, c2, c3, c4]) rfl ⟨vz, 6, S1, n1, ov1, rfl, by rw [HBD.out]; obtain ⟨rfl, rfl, rfl⟩ := HAA.out; exact Ans.er (by rw [bnd_ok HXX.out]; show lift (numOf (at0 a).s) S1 n1 = _; rw [HZ.out, if_neg HCC.out]; rfl) rfl (by decide), hd9, hm9⟩
theorem deeds_any {d : Nat} (HD : DoC (ev d) d) : ∀ o : Nat, o < 30 → DeedC d o dl[o]!
 | 0, _ => deed_value
 | 1, _ => deed_name
 | 2, _ => deed_add HD
 | 3, _ => deed_sub HD
 | 4, _ => deed_mul HD
 | 5, _ => deed_div HD
 | 6, _ => deed_mod HD
 | 7, _ => deed_neg HD
 | 8, _ => deed_less HD
 | 9, _ => deed_same HD
 | 10, _ => deed_not HD
 | 11, _ => deed_choose HD
 | 12, _ => deed_max HD
 | 13, _ => deed_min HD
 | 14, _ => deed_cat HD
 | 15, _ => deed_size HD
 | 16, _ => deed_cut HD
 | 17, _ => deed_word HD
 | 18, _ => deed_words HD
 | 19, _ => deed_num HD
 | 20, _ => deed_text HD
 | 21, _ => deed_spot HD
 | 22, _ => deed_re HD
 | 23, _ => deed_im HD
 | 24, _ => deed_norm HD
 | 25, _ => deed_conj HD
 | 26, _ => deed_emit HD
 | 27, _ => deed_then HD
 | 28, _ => deed_each HD
 | 29, _ => deed_let HD
 | n + 30, h => absurd h (by omega)
theorem do_any : ∀ d : Nat, DoC (ev d) d
 | 0 => do_none
 | d + 1 => do_step (deeds_any (do_any d))
theorem wpList_store_new {P : Program} {ops : Array Oper} {rest : List Oper} {op : Oper} {a : Act} {Q : Exit → Act → World → Prop} (hgd : op.guard = none) (ty : TypeId) (x y : Operand) (ho : op.op = .store ty x y) (w : World) (c c' : Array Value)
 (hx : a.eval x = .pointer (some ⟨w.heap.size, 0, none⟩)) (hy : a.eval y = .agg c') (hi : (P.info? ty).map (·.size) = some c'.size) (hs : c.size = c'.size) (h1 : c'.all (·.oneCell') = true)
 (h : wpList P ops Q rest (a.put op.dst undef) (w.alloc (.cells c' ty))) : wpList P ops Q (op :: rest) a (w.alloc (.cells c ty)) :=
 wpList_plain hgd fun K hK => by
  unfold Oper.wp execOp
  simp only [ho, hx, hy, Instr.storeAt, Instr.sureAddr, Sem.run_bind, Sem.run_pure, Result.andThen_ok, run_storeVar_new w ty c c' hi hs h1]
  exact hK _ _ h
set_option maxRecDepth 100000 in
set_option maxHeartbeats 2000000 in
theorem kinds_any (b : Nat) (w : World) : Calls Tryz.prog 100 #[.pointer (some ⟨b, 0, none⟩)] w (Gives (.agg #[.func (.func 137) #[.pointer (some ⟨b, 0, none⟩)] #[], .func (.func 138) #[.pointer (some ⟨b, 0, none⟩)] #[], .func (.func 139) #[.pointer (some ⟨b, 0, none⟩)] #[], .func (.func 140) #[.pointer (some ⟨b, 0, none⟩)] #[], .func (.func 141) #[.pointer (some ⟨b, 0, none⟩)] #[], .func (.func 142) #[.pointer (some ⟨b, 0, none⟩)] #[], .func (.func 143) #[.pointer (some ⟨b, 0, none⟩)] #[], .func (.func 144) #[.pointer (some ⟨b, 0, none⟩)] #[], .func (.func 145) #[.pointer (some ⟨b, 0, none⟩)] #[], .func (.func 146) #[.pointer (some ⟨b, 0, none⟩)] #[], .func (.func 147) #[.pointer (some ⟨b, 0, none⟩)] #[], .func (.func 148) #[.pointer (some ⟨b, 0, none⟩)] #[], .func (.func 149) #[.pointer (some ⟨b, 0, none⟩)] #[], .func (.func 150) #[.pointer (some ⟨b, 0, none⟩)] #[], .func (.func 151) #[.pointer (some ⟨b, 0, none⟩)] #[], .func (.func 152) #[.pointer (some ⟨b, 0, none⟩)] #[], .func (.func 153) #[.pointer (some ⟨b, 0, none⟩)] #[], .func (.func 154) #[.pointer (some ⟨b, 0, none⟩)] #[], .func (.func 155) #[.pointer (some ⟨b, 0, none⟩)] #[], .func (.func 156) #[.pointer (some ⟨b, 0, none⟩)] #[], .func (.func 157) #[.pointer (some ⟨b, 0, none⟩)] #[], .func (.func 158) #[.pointer (some ⟨b, 0, none⟩)] #[], .func (.func 159) #[.pointer (some ⟨b, 0, none⟩)] #[], .func (.func 160) #[.pointer (some ⟨b, 0, none⟩)] #[], .func (.func 161) #[.pointer (some ⟨b, 0, none⟩)] #[], .func (.func 162) #[.pointer (some ⟨b, 0, none⟩)] #[], .func (.func 163) #[.pointer (some ⟨b, 0, none⟩)] #[], .func (.func 164) #[.pointer (some ⟨b, 0, none⟩)] #[], .func (.func 165) #[.pointer (some ⟨b, 0, none⟩)] #[], .func (.func 166) #[.pointer (some ⟨b, 0, none⟩)] #[]]) w) := by
 have hmf : ∀ (fn : Fn) (first cap : Array Value) (w : World), (Instr.makeFunc fn first cap).run Tryz.prog w = .ok (.func fn first cap) w := fun _ _ _ _ => rfl
 go_enter Tryz.func100, Tryz.ntmps100
 go_wp2_with (refine wpList_store_new rfl 158 (.tmp 2) (.tmp 63) rfl w _ #[.func (.func 137) #[.pointer (some ⟨b, 0, none⟩)] #[], .func (.func 138) #[.pointer (some ⟨b, 0, none⟩)] #[], .func (.func 139) #[.pointer (some ⟨b, 0, none⟩)] #[], .func (.func 140) #[.pointer (some ⟨b, 0, none⟩)] #[], .func (.func 141) #[.pointer (some ⟨b, 0, none⟩)] #[], .func (.func 142) #[.pointer (some ⟨b, 0, none⟩)] #[], .func (.func 143) #[.pointer (some ⟨b, 0, none⟩)] #[], .func (.func 144) #[.pointer (some ⟨b, 0, none⟩)] #[], .func (.func 145) #[.pointer (some ⟨b, 0, none⟩)] #[], .func (.func 146) #[.pointer (some ⟨b, 0, none⟩)] #[], .func (.func 147) #[.pointer (some ⟨b, 0, none⟩)] #[], .func (.func 148) #[.pointer (some ⟨b, 0, none⟩)] #[], .func (.func 149) #[.pointer (some ⟨b, 0, none⟩)] #[], .func (.func 150) #[.pointer (some ⟨b, 0, none⟩)] #[], .func (.func 151) #[.pointer (some ⟨b, 0, none⟩)] #[], .func (.func 152) #[.pointer (some ⟨b, 0, none⟩)] #[], .func (.func 153) #[.pointer (some ⟨b, 0, none⟩)] #[], .func (.func 154) #[.pointer (some ⟨b, 0, none⟩)] #[], .func (.func 155) #[.pointer (some ⟨b, 0, none⟩)] #[], .func (.func 156) #[.pointer (some ⟨b, 0, none⟩)] #[], .func (.func 157) #[.pointer (some ⟨b, 0, none⟩)] #[], .func (.func 158) #[.pointer (some ⟨b, 0, none⟩)] #[], .func (.func 159) #[.pointer (some ⟨b, 0, none⟩)] #[], .func (.func 160) #[.pointer (some ⟨b, 0, none⟩)] #[], .func (.func 161) #[.pointer (some ⟨b, 0, none⟩)] #[], .func (.func 162) #[.pointer (some ⟨b, 0, none⟩)] #[], .func (.func 163) #[.pointer (some ⟨b, 0, none⟩)] #[], .func (.func 164) #[.pointer (some ⟨b, 0, none⟩)] #[], .func (.func 165) #[.pointer (some ⟨b, 0, none⟩)] #[], .func (.func 166) #[.pointer (some ⟨b, 0, none⟩)] #[]] (by simp [Act.eval]) (by simp [Act.eval]) (by kernel_rfl) rfl (by simp [Value.oneCell']) ?_)
 go_wp2_with (fail)
 refine bodyPost_ret (results_cell_row Tryz.results100 _ _ w.heap.size _ _ _ _ rfl (heap_alloc_last w _) Tryz.underlying158 rfl (by kernel_rfl)) rfl ⟨rfl, ?_⟩
 exact box1 w _
def ecl (k : List UInt8) (v a : Va) : List Value := .string (tx k) :: (vcl v ++ vcl a)
def rEnv (k : List UInt8) (v a : Va) : Bool := decide (k.length ≤ 4096) && rt v && rt a
theorem right_va (v : Va) (w : World) : Calls Tryz.prog 50 #[.agg v] w (Gives (.bool (rt v)) w) := by
 have h := right_val v.k v.n v.x v.y (tx v.s) w
 rw [tx_list] at h
 exact h
set_option maxRecDepth 100000 in
set_option maxHeartbeats 2000000 in
theorem renv_any (k : List UInt8) (v a : Va) (w : World) : Calls Tryz.prog 97 #[.agg #[.string (tx k), .int .i64 v.k, .int .i64 v.n, .string (tx v.s), .int .i64 v.x, .int .i64 v.y, .int .i64 a.k, .int .i64 a.n, .string (tx a.s), .int .i64 a.x, .int .i64 a.y]] w (Gives (.bool (rEnv k v a)) w) := by
 have hsz := tx_size k
 have h1 : Blk (w.alloc (.cells #[.string (tx k), .int .i64 v.k, .int .i64 v.n, .string (tx v.s), .int .i64 v.x, .int .i64 v.y, .int .i64 a.k, .int .i64 a.n, .string (tx a.s), .int .i64 a.x, .int .i64 a.y] 109)) w.heap.size (ecl k v a) := Blk.made w 109 (ecl k v a) rfl
 have hb1 := box1 w (.cells #[.string (tx k), .int .i64 v.k, .int .i64 v.n, .string (tx v.s), .int .i64 v.x, .int .i64 v.y, .int .i64 a.k, .int .i64 a.n, .string (tx a.s), .int .i64 a.x, .int .i64 a.y] 109)
 have H1 := Lib.hid h1; have HB1 := Lib.hid hb1; have HV := Lib.hid (right_va v); have HA := Lib.hid (right_va a)
 clear h1 hb1
 by_cases hk : (tx k).size ≤ 4096
 · have HE : Hid (rEnv k v a = (rt v && rt a)) := by show _ = _; unfold rEnv; rw [show decide (k.length ≤ 4096) = true from decide_eq_true (by omega)]; rfl
   rcases Bool.eq_false_or_eq_true (rt v) with hv | hv
   · rw [hv] at HV HE
     go_enter Tryz.func97, Tryz.ntmps97
     go_wp2_with (fail)
     refine (HV.out _).mono ?_
     rintro e w2 ⟨rfl, hb⟩
     have H2 := Lib.hid (H1.out.next hb); have HB2 := Lib.hid (Below.next HB1.out hb)
     have c6 := H2.out.c 6 _ rfl; have c7 := H2.out.c 7 _ rfl; have c8 := H2.out.c 8 _ rfl; have c9 := H2.out.c 9 _ rfl; have c10 := H2.out.c 10 _ rfl
     clear hb H1 HB1
     go_wp2_with (fail)
     refine (HA.out _).mono ?_
     rintro e w3 ⟨rfl, hb⟩
     have HB3 := Lib.hid (Below.next HB2.out hb)
     clear hb H2 HB2 c6 c7 c8 c9 c10
     go_wp2_with (fail)
     go_ret
     exact ⟨by rw [HE.out]; simp, HB3.out⟩
   · rw [hv] at HV HE
     go_enter Tryz.func97, Tryz.ntmps97
     go_wp2_with (fail)
     refine (HV.out _).mono ?_
     rintro e w2 ⟨rfl, hb⟩
     have HB2 := Lib.hid (Below.next HB1.out hb)
     clear hb H1 HB1
     go_wp2_with (fail)
     go_ret
     exact ⟨by rw [HE.out]; simp, HB2.out⟩
 · have HE : Hid (rEnv k v a = false) := by show _ = _; unfold rEnv; rw [show decide (k.length ≤ 4096) = false from decide_eq_false (by omega)]; rfl
   go_enter Tryz.func97, Tryz.ntmps97
   go_wp2_with (fail)
   go_ret
   exact ⟨by rw [HE.out]; rfl, HB1.out⟩
end Go.Proofs.YtimllihegnokeaaGreatDoor.Ev

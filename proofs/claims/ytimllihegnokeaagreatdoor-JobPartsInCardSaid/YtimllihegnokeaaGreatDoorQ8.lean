/-
  Small texts of this claim, together: EvPre, EvAlike, EvReckon, EvDeed7.
-/
import Derived.Test.YtimllihegnokeaaGreatDoorQEvParts
import Derived.Test.YtimllihegnokeaaGreatDoorQ7
import Derived.Test.YtimllihegnokeaaGreatDoorQ3
import Derived.Defers
namespace Go.Proofs.YtimllihegnokeaaGreatDoor.Ev
open Go.ChangeShapes Go.WideShapes Go.ChangeAt Go.RowKit Ov Va Ex
def af (o : Int) (l : List Va) : M Va := if o = 26 then (if 64 < (at0 l).s.length then fail 3 else emitM (at0 l).s (at1 l)) else lift (pu o (at0 l) (at1 l) (at2 l))
theorem fin_bnd {β : Type} (ks : List Int) (l : List Va) (g : List Va → M β) : bnd (fin ks l) g = if fits ks l = false then fail 13 else g l := by
 unfold fin
 cases hf : fits ks l <;> rfl
theorem prt_bnd {β : Type} (f : List No → M Va) (ks : List Int) (r : List No) (g : List Va → M β) : bnd (prt f ks r) g = bnd (va f ks.length r []) fun l => if fits ks l = false then fail 13 else g l := by
 unfold prt
 rw [bnd_assoc]
 congr 1
 funext l
 exact fin_bnd ks l g
theorem body_prt {f : List No → M Va} {n : No} {r : List No} {o : Int} (ho : n.o = o) (h0 : o ≠ 0) (h1 : o ≠ 1) (h11 : o ≠ 11) (h28 : o ≠ 28) (h29 : o ≠ 29) (hl : (ask o).length = pa o) : body f n r = bnd (prt f (ask o) r) (af o) := by
 unfold body
 rw [ho, if_neg h0, if_neg h1, if_neg h11, if_neg h28, if_neg h29, prt_bnd, hl]; rfl
theorem va_one (f : List No → M Va) (r : List No) {β : Type} (g : List Va → M β) : bnd (va f 1 r []) g = bnd (f r) fun a => g [a] := by
 rw [va_succ, bnd_assoc]; rfl
theorem prt_one {β : Type} (f : List No → M Va) (k : Int) (r : List No) (g : List Va → M β) : bnd (prt f [k] r) g = bnd (f r) fun a => if (k == -1 || a.k == k) = false then fail 13 else g [a] := by
 rw [prt_bnd]
 show bnd (va f 1 r []) _ = _
 rw [va_one]
 congr 1
 funext a
 simp [fits]
def Pp (X : Rs (List Va)) (w0 : World) (A : Option Addr) (c E b : Nat) (l : List No) (ov : Value) (w : World) (e : Ending) (w' : World) : Prop :=
 ∃ (p0 p1 p2 : Va) (x : Int) (S' : St) (n' : Nat) (ov' : Value), e = .returned (.tuple #[.agg #[.int .i64 p0.k, .int .i64 p0.n, .string (tx p0.s), .int .i64 p0.x, .int .i64 p0.y, .int .i64 p1.k, .int .i64 p1.n, .string (tx p1.s), .int .i64 p1.x, .int .i64 p1.y, .int .i64 p2.k, .int .i64 p2.n, .string (tx p2.s), .int .i64 p2.x, .int .i64 p2.y], .int .i64 x]) ∧
  Ans X (fun a => p0 = at0 a ∧ p1 = at1 a ∧ p2 = at2 a) x S' n' ∧ rt p0 = true ∧ rt p1 = true ∧ rt p2 = true ∧ (x = 0 → Gd S' n') ∧ Doer w0 A c E b l S' n' ov' w' ∧ Mv b ov w ov' w' ∧ Box w0 b E ov' w.heap.size (vcs 0 0 ⟨#[]⟩ 0 0) w'
theorem it_pre {d k : Nat} {m : Nat} {r r' : List No} (h : it (ex d) k r = some r') (hm : m ≤ k) : ∃ r2, it (ex d) m r = some r2 := by
 induction m generalizing k r with
 | zero => exact ⟨r, rfl⟩
 | succ m ih =>
   obtain ⟨j, rfl⟩ : ∃ j, k = j + 1 := ⟨k - 1, by omega⟩
   rw [it_succ] at h
   obtain ⟨r1, h1, h2⟩ := Option.bind_eq_some_iff.1 h
   obtain ⟨r2, h3⟩ := ih h2 (by omega)
   exact ⟨r2, by rw [it_succ, h1]; exact h3⟩
theorem prt_good {d : Nat} (hd : d ≤ 25) {ks : List Int} {r r' : List No} (h : it (ex d) ks.length r = some r') : GdM (prt (ev d) ks r) AllR := by
 unfold prt
 refine (va_good (ev_good d hd) hd _ _ _ _ h (fun v hv => by cases hv)).bnd fun l hl => ?_
 unfold fin
 exact GdM.ite (fun _ => GdM.ret hl) fun _ => GdM.fail
theorem pre_any {d : Nat} (HD : DoC (ev d) d) (ks : List Int) (hk1 : 1 ≤ ks.length) (hk3 : ks.length ≤ 3) (hks : ∀ k ∈ ks, -1 ≤ k ∧ k ≤ 2)
 {w0 : World} {A : Option Addr} {c E b : Nat} {l : List No} {S : St} {n : Nat} {ov : Value} {w : World} {k m : Nat} {r : List No}
 (hcx : Cx w0 A l) (hd : Doer w0 A c E b l S n ov w) (hg : Gd S n) (hkl : k < l.length) (hx : it (ex d) m (l.drop (k + 1)) = some r) (hm : ks.length ≤ m) (hd25 : d ≤ 24) :
 Calls Tryz.prog 206 #[.pointer (some ⟨b, 0, none⟩), .int .i64 (k : Int), .slice (some ⟨w.heap.size + 1, 0, none⟩) ks.length ks.length]
  ((w.alloc vbox).alloc (.cells (kcl ks).toArray 3)) (Pp (prt (ev d) ks (l.drop (k + 1)) S n) w0 A c E b l ov w) := by
 obtain ⟨r2, hx2⟩ := it_pre hx hm
 have hx1 : Box w0 b E ov w.heap.size (vcs 0 0 ⟨#[]⟩ 0 0) (w.alloc vbox) := Box.made hd (by omega) 45 (vcs 0 0 ⟨#[]⟩ 0 0)
 have hd1 := hd.old (box1 w vbox)
 have hq := Box.made hd1 (by omega) 3 (kcl ks)
 have hd2 := hd1.old (box1 (w.alloc vbox) (.cells (kcl ks).toArray 3))
 have hx3 := hx1.old (box1 (w.alloc vbox) (.cells (kcl ks).toArray 3))
 have hm2 : Mv b ov w ov ((w.alloc vbox).alloc (.cells (kcl ks).toArray 3)) := Mv.of (box2 w _ _)
 rw [World.size_alloc] at hq
 refine (parts_any HD (ev_good d (by omega)) ks hk1 hk3 hks w0 A c E b (w.heap.size + 1) l S n ov _ k r2 hcx hd2 hq hg hkl hx2 (by omega)).mono ?_
 rintro e w' ⟨p0, p1, p2, x, S', n', ov', he, ha, hz, hd', hm'⟩
 have hR : (rt p0 = true ∧ rt p1 = true ∧ rt p2 = true) ∧ (x = 0 → Gd S' n') := by
  rcases ha.cases with ⟨h0, _⟩ | ⟨h0, a, ⟨g0, g1, g2⟩, ha'⟩
  · obtain ⟨g0, g1, g2⟩ := hz h0
    rw [g0, g1, g2]
    exact ⟨⟨rt_vz, rt_vz, rt_vz⟩, fun h => absurd h h0⟩
  · obtain ⟨k1, k2⟩ := prt_good (by omega) hx2 S n a S' n' hg ha'
    rw [g0, g1, g2]
    exact ⟨⟨k1.at 0, k1.at 1, k1.at 2⟩, fun _ => k2⟩
 exact ⟨p0, p1, p2, x, S', n', ov', he, ha, hR.1.1, hR.1.2.1, hR.1.2.2, hR.2, hd', hm2.trans hm', hx3.mv hm'⟩
end Go.Proofs.YtimllihegnokeaaGreatDoor.Ev
namespace Go.Proofs.YtimllihegnokeaaGreatDoor.Ev
open Go.ChangeShapes Go.WideShapes Go.ChangeAt Go.RowKit Ov Va Ga Ex
def alk (l : List Va) : M (List Va) := if (at0 l).k ≠ (at1 l).k then fail 13 else ret l
def Al (X : Rs (List Va)) (w0 : World) (A : Option Addr) (c E b : Nat) (l : List No) (ov : Value) (w : World) (e : Ending) (w' : World) : Prop :=
 ∃ (p q : Va) (x : Int) (S' : St) (n' : Nat) (ov' : Value), e = .returned (.tuple #[.agg p, .agg q, .int .i64 x]) ∧ Ans X (fun a => p = at0 a ∧ q = at1 a ∧ p.k = q.k) x S' n' ∧ rt p = true ∧ rt q = true ∧ (x = 0 → Gd S' n') ∧ Doer w0 A c E b l S' n' ov' w' ∧ Mv b ov w ov' w'
theorem alk_ok {l : List Va} (h : (at0 l).k = (at1 l).k) (S : St) (n : Nat) : alk l S n = .ok l S n := by unfold alk; rw [if_neg (fun e => e h)]; rfl
theorem alk_no {l : List Va} (h : (at0 l).k ≠ (at1 l).k) (S : St) (n : Nat) : alk l S n = .er 13 := by unfold alk; rw [if_pos h]; rfl
set_option maxRecDepth 100000 in
set_option maxHeartbeats 2000000 in
theorem alike_any {d : Nat} (HD : DoC (ev d) d) {w0 : World} {A : Option Addr} {c E b : Nat} {l : List No} {S : St} {n : Nat} {ov : Value} {w : World} {k m : Nat} {r : List No}
 (hcx : Cx w0 A l) (hd : Doer w0 A c E b l S n ov w) (hg : Gd S n) (hkl : k < l.length) (hx : it (ex d) m (l.drop (k + 1)) = some r) (hm : 2 ≤ m) (hd24 : d ≤ 24) :
 Calls Tryz.prog 209 #[.pointer (some ⟨b, 0, none⟩), .int .i64 (k : Int)] w (Al (bnd (prt (ev d) [-1, -1] (l.drop (k + 1))) alk S n) w0 A c E b l ov w) := by
 have hb0 : Box w0 b E ov w.heap.size zz (w.alloc vbox) := Box.made hd (by omega) 45 zz
 have hm0 : Mv b ov w ov (w.alloc vbox) := Mv.of (box1 w vbox)
 have HP := Lib.hid (pre_any HD [-1, -1] (by decide) (by decide) (by decide) hcx (hd.old (box1 w vbox)) hg hkl hx hm hd24)
 have HB0 := Lib.hid hb0; have HM0 := Lib.hid hm0
 have HSZ : Hid ((w.alloc vbox).heap.size = w.heap.size + 1) := World.size_alloc _ _
 rw [HSZ.out] at HP
 obtain ⟨X, hX⟩ : ∃ X, bnd (prt (ev d) [-1, -1] (l.drop (k + 1))) alk S n = X := ⟨_, rfl⟩
 have HXE := Lib.hid hX
 rw [hX]
 clear hcx hd hg hx hm hd24 HD hb0 hm0 hX
 go_enter Tryz.func209, Tryz.ntmps209
 go_wp2_with (fail)
 refine (HP.out).mono ?_
 rintro e w3 ⟨p0, p1, p2, x, S1, n1, ov1, rfl, ha, r0, r1, r2, hgd, hd3, hm3, hx3⟩
 have HA := Lib.hid ha; have R0 := Lib.hid r0; have R1 := Lib.hid r1; have HG := Lib.hid hgd; have HD3 := Lib.hid hd3
 rw [HSZ.out] at hx3
 have HY3 := Lib.hid hx3; have HX3 := Lib.hid (HB0.out.mv hm3); have HM3 := Lib.hid (HM0.out.trans hm3)
 have hlZ := HX3.out.blk.lt; have hlY := HY3.out.blk.lt
 clear ha r0 r1 r2 hgd hd3 hm3 hx3 HP HB0 HM0 HSZ
 rcases HA.out.cases with ⟨hx0, hX⟩ | ⟨rfl, a, ha, hX⟩
 · have HX0 := Lib.hid hx0; have HXX := Lib.hid hX
   have hx1 : (x == 0) = false := by simpa using hx0
   have hx2 : (x != 0) = true := by simpa using hx0
   clear hx0 hX HA
   obtain ⟨cX0, cX1, cX2, cX3, cX4, zX0, zX1, zX2, zX3, zX4, hltX⟩ := HX3.out.fiv
   obtain ⟨cY0, cY1, cY2, cY3, cY4, zY0, zY1, zY2, zY3, zY4, hltY⟩ := HY3.out.fiv
   go_wp2_with (fail)
   refine dend2a (P := bodyPost _ _ _ _ _) HD3.out HM3.out HX3.out HY3.out (by omega) (by omega) (by omega) _ _ _ _ _ _ _ _ _ _ ?_
   clear cX0 cX1 cX2 cX3 cX4 zX0 zX1 zX2 zX3 zX4 cY0 cY1 cY2 cY3 cY4 zY0 zY1 zY2 zY3 zY4 HD3 HM3 HX3 HY3 
   intro w9 hd9 hm9 cX0 cX1 cX2 cX3 cX4 cY0 cY1 cY2 cY3 cY4
   refine bodyPost_ret (v := .tuple #[.agg zz, .agg zz, .int .i64 x]) (by simp [results, Tryz.results209, go_sem, cX0, cX1, cX2, cX3, cX4, cY0, cY1, cY2, cY3, cY4]) rfl ⟨vz, vz, x, S1, n1, ov1, rfl, Ans.er (by rw [← HXE.out]; exact bnd_er HXX.out) rfl HX0.out, rt_vz, rt_vz, fun h => absurd h HX0.out, hd9, hm9⟩
 · have HXX := Lib.hid hX; have HAA := Lib.hid ha; have HGD := Lib.hid (HG.out rfl)
   clear hX ha HA HG
   by_cases hk : p0.k = p1.k
   · have hk1 : (p0.k != p1.k) = false := by simpa using hk
     have HK := Lib.hid hk; clear hk
     obtain ⟨cX0, cX1, cX2, cX3, cX4, zX0, zX1, zX2, zX3, zX4, hltX⟩ := HX3.out.fiv
     obtain ⟨cY0, cY1, cY2, cY3, cY4, zY0, zY1, zY2, zY3, zY4, hltY⟩ := HY3.out.fiv
     go_wp2_with (fail)
     go_region
     go_wp2_with (fail)
     refine dend2ad (P := bodyPost _ _ _ _ _) HD3.out HM3.out HX3.out HY3.out (by omega) (by omega) (by omega) _ _ _ _ _ _ _ _ _ _ ?_
     clear cX0 cX1 cX2 cX3 cX4 zX0 zX1 zX2 zX3 zX4 cY0 cY1 cY2 cY3 cY4 zY0 zY1 zY2 zY3 zY4 HD3 HM3 HX3 HY3 
     intro w9 hd9 hm9 cX0 cX1 cX2 cX3 cX4 cY0 cY1 cY2 cY3 cY4
     refine bodyPost_ret (v := .tuple #[.agg p0, .agg p1, .int .i64 0]) (by simp [results, Tryz.results209, go_sem, cX0, cX1, cX2, cX3, cX4, cY0, cY1, cY2, cY3, cY4]) rfl ⟨p0, p1, 0, S1, n1, ov1, rfl, by rw [← HXE.out]; obtain ⟨rfl, rfl, rfl⟩ := HAA.out; exact Ans.ok (by rw [bnd_ok HXX.out]; exact alk_ok HK.out _ _) ⟨rfl, rfl, HK.out⟩, R0.out, R1.out, fun _ => HGD.out, hd9, hm9⟩
   · have hk1 : (p0.k != p1.k) = true := by simpa using hk
     have HK := Lib.hid hk; clear hk
     obtain ⟨cX0, cX1, cX2, cX3, cX4, zX0, zX1, zX2, zX3, zX4, hltX⟩ := HX3.out.fiv
     obtain ⟨cY0, cY1, cY2, cY3, cY4, zY0, zY1, zY2, zY3, zY4, hltY⟩ := HY3.out.fiv
     go_wp2_with (fail)
     refine dend2a (P := bodyPost _ _ _ _ _) HD3.out HM3.out HX3.out HY3.out (by omega) (by omega) (by omega) _ _ _ _ _ _ _ _ _ _ ?_
     clear cX0 cX1 cX2 cX3 cX4 zX0 zX1 zX2 zX3 zX4 cY0 cY1 cY2 cY3 cY4 zY0 zY1 zY2 zY3 zY4 HD3 HM3 HX3 HY3 
     intro w9 hd9 hm9 cX0 cX1 cX2 cX3 cX4 cY0 cY1 cY2 cY3 cY4
     refine bodyPost_ret (v := .tuple #[.agg zz, .agg zz, .int .i64 13]) (by simp [results, Tryz.results209, go_sem, cX0, cX1, cX2, cX3, cX4, cY0, cY1, cY2, cY3, cY4]) rfl ⟨vz, vz, 13, S1, n1, ov1, rfl, by rw [← HXE.out]; obtain ⟨rfl, rfl, rfl⟩ := HAA.out; exact Ans.er (by rw [bnd_ok HXX.out]; exact alk_no HK.out _ _) rfl (by decide), rt_vz, rt_vz, fun h => absurd h (by decide), hd9, hm9⟩
theorem tx_data (s : ByteArray) : tx s.data.toList = s := (tx_ext rfl).symm
def cke (e : Int) (u : Va) : Int ⊕ Va := if e = 0 then chk u else .inl e
theorem ifv_ans (k n x y e : Int) (s : ByteArray) : ∃ (v : Va) (z : Int), ifv k n s x y e = .tuple #[.agg v, .int .i64 z] ∧ ∀ S m, Ans (lift (cke e ⟨k, n, s.data.toList, x, y⟩) S m) (fun a => v = a) z S m := by
 unfold ifv cke chk
 by_cases h : e = 0
 · rw [if_pos h, if_pos h]
   by_cases h2 : rt ⟨k, n, s.data.toList, x, y⟩ = true
   · rw [if_pos h2, if_pos h2]
     exact ⟨⟨k, n, s.data.toList, x, y⟩, 0, by dsimp only; rw [tx_data], fun S m => ⟨rfl, rfl, rfl, rfl⟩⟩
   · rw [if_neg h2, if_neg h2]
     exact ⟨vz, 14, rfl, fun S m => ⟨rfl, by decide⟩⟩
 · rw [if_neg h, if_neg h]
   exact ⟨vz, e, rfl, fun S m => ⟨rfl, h⟩⟩
structure RkC (o : Int) (F' G' : FuncId) : Prop where
 eF : ∀ args w, (callFunc F' args).run Tryz.prog w = .ok (.enter F' args) w
 eG : ∀ args w, (callFunc G' args).run Tryz.prog w = .ok (.enter G' args) w
 cF : ∀ a b : Int, (-9007199254740992 ≤ a ∧ a ≤ 9007199254740992) → (-9007199254740992 ≤ b ∧ b ≤ 9007199254740992) → ∃ r e : Int, (∀ w, Calls Tryz.prog F' #[.int .i64 a, .int .i64 b] w (Gives (.tuple #[.int .i64 r, .int .i64 e]) w)) ∧ nums o a b = cke e (nv r)
 cG : ∀ a b : Pt, rb a = true → rb b = true → ∃ (p : Pt) (e : Int), (∀ w, Calls Tryz.prog G' #[.agg #[.int .i64 a.x, .int .i64 a.y], .agg #[.int .i64 b.x, .int .i64 b.y]] w (Gives (.tuple #[.agg #[.int .i64 p.x, .int .i64 p.y], .int .i64 e]) w)) ∧ spots o a b = cke e (pv p.x p.y)
theorem rk_int {o : Int} {a b : Va} (h : a.k = b.k) (h0 : a.k = 0) : rk o a b = nums o a.n b.n := by unfold rk; rw [if_neg (fun e => e h), if_pos h0]
theorem rk_pt {o : Int} {a b : Va} (h : a.k = b.k) (h0 : a.k = 2) : rk o a b = spots o (pt a) (pt b) := by unfold rk; rw [if_neg (fun e => e h), if_neg (by omega), if_pos h0]
theorem rk_no {o : Int} {a b : Va} (h : a.k = b.k) (h0 : a.k ≠ 0) (h2 : a.k ≠ 2) : rk o a b = .inl 13 := by unfold rk; rw [if_neg (fun e => e h), if_neg h0, if_neg h2]
set_option maxRecDepth 100000 in
set_option maxHeartbeats 2000000 in
theorem reckon_any {o : Int} {F' G' : FuncId} (RK : RkC o F' G') {d : Nat} (HD : DoC (ev d) d) {w0 : World} {A : Option Addr} {c E b : Nat} {l : List No} {S : St} {n : Nat} {ov : Value} {w : World} {k m : Nat} {r : List No}
 (hcx : Cx w0 A l) (hd : Doer w0 A c E b l S n ov w) (hg : Gd S n) (hkl : k < l.length) (hx : it (ex d) m (l.drop (k + 1)) = some r) (hm : 2 ≤ m) (hd24 : d ≤ 24) :
 Calls Tryz.prog 195 #[.pointer (some ⟨b, 0, none⟩), .int .i64 (k : Int), .func (.func F') #[] #[], .func (.func G') #[] #[]] w (Dn (bnd (bnd (prt (ev d) [-1, -1] (l.drop (k + 1))) alk) (fun l => lift (rk o (at0 l) (at1 l))) S n) w0 A c E b l ov w) := by
 have hb0 : Box w0 b E ov w.heap.size zz (w.alloc vbox) := Box.made hd (by omega) 45 zz
 have hm0 : Mv b ov w ov (w.alloc vbox) := Mv.of (box1 w vbox)
 have HP := Lib.hid (alike_any HD hcx (hd.old (box1 w vbox)) hg hkl hx hm hd24)
 have HB0 := Lib.hid hb0; have HM0 := Lib.hid hm0
 have hF := RK.eF; have hG := RK.eG
 have HCF := Lib.hid RK.cF; have HCG := Lib.hid RK.cG
 obtain ⟨X, hX⟩ : ∃ X, bnd (bnd (prt (ev d) [-1, -1] (l.drop (k + 1))) alk) (fun l => lift (rk o (at0 l) (at1 l))) S n = X := ⟨_, rfl⟩
 have HXE := Lib.hid hX
 rw [hX]
 clear hcx hd hg hx hm hd24 HD hb0 hm0 hX RK
 go_enter Tryz.func195, Tryz.ntmps195
 go_wp2_with (fail)
 refine (HP.out).mono ?_
 rintro e w3 ⟨p, q, x, S1, n1, ov1, rfl, ha, r0, r1, hgd, hd3, hm3⟩
 have HA := Lib.hid ha; have R0 := Lib.hid r0; have R1 := Lib.hid r1; have HD3 := Lib.hid hd3
 have HX3 := Lib.hid (HB0.out.mv hm3); have HM3 := Lib.hid (HM0.out.trans hm3)
 have hlZ := HX3.out.blk.lt
 clear ha r0 r1 hgd hd3 hm3 HP HB0 HM0
 rcases HA.out.cases with ⟨hx0, hX⟩ | ⟨rfl, a, ha, hX⟩
 · have HX0 := Lib.hid hx0; have HXX := Lib.hid hX
   have hx1 : (x == 0) = false := by simpa using hx0
   have hx2 : (x != 0) = true := by simpa using hx0
   clear hx0 hX HA
   obtain ⟨cX0, cX1, cX2, cX3, cX4, zX0, zX1, zX2, zX3, zX4, hltX⟩ := HX3.out.fiv
   go_wp2_with (fail)
   refine dendaa (P := bodyPost _ _ _ _ _) HD3.out HM3.out HX3.out (by omega) _ _ _ _ _ ?_
   clear cX0 cX1 cX2 cX3 cX4 zX0 zX1 zX2 zX3 zX4 HD3 HM3 HX3 
   intro w9 hd9 hm9 cX0 cX1 cX2 cX3 cX4
   refine bodyPost_ret (v := .tuple #[.agg zz, .int .i64 x]) (by simp [results, Tryz.results195, go_sem, cX0, cX1, cX2, cX3, cX4]) rfl ⟨vz, x, S1, n1, ov1, rfl, Ans.er (by rw [← HXE.out]; exact bnd_er HXX.out) rfl HX0.out, hd9, hm9⟩
 · have HXX := Lib.hid hX
   obtain ⟨e0, e1, hk⟩ := ha
   have HK := Lib.hid hk; have E0 := Lib.hid e0; have E1 := Lib.hid e1
   clear hX e0 e1 hk HA
   by_cases h0 : p.k = 0
   · have h1 : (p.k == 0) = true := by simpa using h0
     obtain ⟨r1, e1, hc, hn⟩ := HCF.out p.n q.n (rt_all R0.out).1 (rt_all R1.out).1
     obtain ⟨v, z, hv, hz⟩ := ifv_ans 0 r1 0 0 e1 ⟨#[]⟩
     have HI := Lib.hid (eif_any 0 r1 0 0 e1 ⟨#[]⟩)
     rw [hv] at HI
     have HC := Lib.hid hc
     have HR : Hid (Ans X (fun a => v = a) z S1 n1) := by show Ans _ _ _ _ _; rw [← HXE.out, bnd_ok HXX.out, ← E0.out, ← E1.out, rk_int HK.out h0, hn]; exact hz _ _
     clear hc hn hz hv h0 HCF HCG HXE HXX E0 E1 HK
     go_wp2_with (fail)
     refine (HC.out _).mono ?_
     rintro e w4 ⟨rfl, hb⟩
     have HD4 := Lib.hid (((HD3.out.old (box1 _ (.cells p 45))).old (box1 _ (.cells q 45))).old hb)
     have HM4 := Lib.hid (((HM3.out.old (box1 _ (.cells p 45))).old (box1 _ (.cells q 45))).old hb)
     have HX4 := Lib.hid (((HX3.out.old (box1 _ (.cells p 45))).old (box1 _ (.cells q 45))).old hb)
     clear hb HD3 HM3 HX3  
     go_wp2_with (fail)
     refine (enumber_any _ _).mono ?_
     rintro e w5 ⟨rfl, hb⟩
     have HD5 := Lib.hid (HD4.out.old hb)
     have HM5 := Lib.hid (HM4.out.old hb)
     have HX5 := Lib.hid (HX4.out.old hb)
     clear hb HD4 HM4 HX4  
     go_wp2_with (fail)
     refine (HI.out _).mono ?_
     rintro e w6 ⟨rfl, hb⟩
     have HD6 := Lib.hid (HD5.out.old hb)
     have HM6 := Lib.hid (HM5.out.old hb)
     have HX6 := Lib.hid (HX5.out.old hb)
     clear hb HD5 HM5 HX5  
     obtain ⟨cX0, cX1, cX2, cX3, cX4, zX0, zX1, zX2, zX3, zX4, hltX⟩ := HX6.out.fiv
     go_wp2_with (fail)
     refine dend0 (P := bodyPost _ _ _ _ _) HD6.out HM6.out HX6.out (by omega) _ _ _ _ _ ?_
     clear cX0 cX1 cX2 cX3 cX4 zX0 zX1 zX2 zX3 zX4 HD6 HM6 HX6 
     intro w9 hd9 hm9 cX0 cX1 cX2 cX3 cX4
     refine bodyPost_ret (v := .tuple #[.agg v, .int .i64 z]) (by simp [results, Tryz.results195, go_sem, cX0, cX1, cX2, cX3, cX4]) rfl ⟨v, z, S1, n1, ov1, rfl, HR.out, hd9, hm9⟩
   · have h1 : (p.k == 0) = false := by simpa using h0
     by_cases h2 : p.k = 2
     · have h3 : (p.k == 2) = true := by simpa using h2
       obtain ⟨r1, e1, hc, hn⟩ := HCG.out (pt p) (pt q) (rt_all R0.out).2.2.1 (rt_all R1.out).2.2.1
       obtain ⟨u1, u2⟩ := r1
       dsimp only at hc hn
       obtain ⟨v, z, hv, hz⟩ := ifv_ans 2 0 u1 u2 e1 ⟨#[]⟩
       have HI := Lib.hid (eif_any 2 0 u1 u2 e1 ⟨#[]⟩)
       rw [hv] at HI
       have HC := Lib.hid hc
       unfold pt at HC
       have HR : Hid (Ans X (fun a => v = a) z S1 n1) := by show Ans _ _ _ _ _; rw [← HXE.out, bnd_ok HXX.out, ← E0.out, ← E1.out, rk_pt HK.out h2, hn]; exact hz _ _
       clear hc hn hz hv h0 h2 HCF HCG HXE HXX E0 E1 HK
       go_wp2_with (fail)
       refine (HC.out _).mono ?_
       rintro e w4 ⟨rfl, hb⟩
       have HD4 := Lib.hid (((HD3.out.old (box1 _ (.cells p 45))).old (box1 _ (.cells q 45))).old hb)
       have HM4 := Lib.hid (((HM3.out.old (box1 _ (.cells p 45))).old (box1 _ (.cells q 45))).old hb)
       have HX4 := Lib.hid (((HX3.out.old (box1 _ (.cells p 45))).old (box1 _ (.cells q 45))).old hb)
       clear hb HD3 HM3 HX3  
       go_wp2_with (fail)
       refine (epoint_any _ _ _).mono ?_
       rintro e w5 ⟨rfl, hb⟩
       have HD5 := Lib.hid ((HD4.out.old (box1 _ (.cells #[.int .i64 u1, .int .i64 u2] 43))).old hb)
       have HM5 := Lib.hid ((HM4.out.old (box1 _ (.cells #[.int .i64 u1, .int .i64 u2] 43))).old hb)
       have HX5 := Lib.hid ((HX4.out.old (box1 _ (.cells #[.int .i64 u1, .int .i64 u2] 43))).old hb)
       clear hb HD4 HM4 HX4  
       go_wp2_with (fail)
       refine (HI.out _).mono ?_
       rintro e w6 ⟨rfl, hb⟩
       have HD6 := Lib.hid (HD5.out.old hb)
       have HM6 := Lib.hid (HM5.out.old hb)
       have HX6 := Lib.hid (HX5.out.old hb)
       clear hb HD5 HM5 HX5  
       obtain ⟨cX0, cX1, cX2, cX3, cX4, zX0, zX1, zX2, zX3, zX4, hltX⟩ := HX6.out.fiv
       go_wp2_with (fail)
       refine dend0 (P := bodyPost _ _ _ _ _) HD6.out HM6.out HX6.out (by omega) _ _ _ _ _ ?_
       clear cX0 cX1 cX2 cX3 cX4 zX0 zX1 zX2 zX3 zX4 HD6 HM6 HX6 
       intro w9 hd9 hm9 cX0 cX1 cX2 cX3 cX4
       refine bodyPost_ret (v := .tuple #[.agg v, .int .i64 z]) (by simp [results, Tryz.results195, go_sem, cX0, cX1, cX2, cX3, cX4]) rfl ⟨v, z, S1, n1, ov1, rfl, HR.out, hd9, hm9⟩
     · have h3 : (p.k == 2) = false := by simpa using h2
       have HR : Hid (X = .er 13) := by show _ = _; rw [← HXE.out, bnd_ok HXX.out, ← E0.out, ← E1.out, rk_no HK.out h0 h2]; rfl
       clear h0 h2
       obtain ⟨cX0, cX1, cX2, cX3, cX4, zX0, zX1, zX2, zX3, zX4, hltX⟩ := HX3.out.fiv
       go_wp2_with (fail)
       refine dendaa (P := bodyPost _ _ _ _ _) HD3.out HM3.out HX3.out (by omega) _ _ _ _ _ ?_
       clear cX0 cX1 cX2 cX3 cX4 zX0 zX1 zX2 zX3 zX4 HD3 HM3 HX3 
       intro w9 hd9 hm9 cX0 cX1 cX2 cX3 cX4
       refine bodyPost_ret (v := .tuple #[.agg zz, .int .i64 13]) (by simp [results, Tryz.results195, go_sem, cX0, cX1, cX2, cX3, cX4]) rfl ⟨vz, 13, S1, n1, ov1, rfl, Ans.er HR.out rfl (by decide), hd9, hm9⟩
theorem body_let (f : List No → M Va) (n : No) (r : List No) (h : n.o = 29) : body f n r = bnd (prt f [-1] r) (fun a => withIt (at0 a) (f (nx r))) := by
 unfold body
 rw [if_neg (by omega), if_neg (by omega), if_neg (by omega), if_neg (by omega), if_pos h, prt_one]
 congr 1
theorem withIt_ans {f : M Va} {v : Va} {S S2 : St} {n n2 : Nat} {P : Va → Prop} {x : Int} (h : Ans (f { S with it := v } n) P x S2 n2) : Ans (withIt v f S n) P x { S2 with it := S.it } n2 := by
 unfold withIt
 rcases h.cases with ⟨h0, e⟩ | ⟨h0, a, ha, e⟩
 · rw [e]; exact ⟨rfl, h0⟩
 · rw [e]; exact ⟨h0, ha, rfl, rfl⟩
set_option maxRecDepth 100000 in
set_option maxHeartbeats 2000000 in
theorem deed_let {d : Nat} (HD : DoC (ev d) d) : DeedC d 29 166 := by
 intro w0 A c E b l S n ov w k r hcx hd hg hkl ho hrn hx hd24
 have HBD : Hid (body (ev d) (nd l k) (l.drop (k + 1)) S n = bnd (prt (ev d) [-1] (l.drop (k + 1))) (fun a => withIt (at0 a) (ev d (nx (l.drop (k + 1))))) S n) := by show _ = _; exact congrFun (congrFun (body_let _ _ _ ho) S) n
 have HP := Lib.hid (pre_any HD [-1] (by decide) (by decide) (by decide) hcx hd hg hkl hx (by decide) hd24)
 have hx3 := hx
 change it (ex d) 2 (l.drop (k + 1)) = some r at hx3
 rw [it_succ] at hx3
 obtain ⟨r1, x1, hx3⟩ := Option.bind_eq_some_iff.1 hx3
 rw [it_succ] at hx3
 obtain ⟨r2, x2, hx3⟩ := Option.bind_eq_some_iff.1 hx3
 obtain ⟨g1, g2, g3⟩ := ex_drop_len x1 (by omega)
 obtain ⟨y1, hy1⟩ : ∃ y1, l.length - r1.length = y1 := ⟨_, rfl⟩
 rw [hy1] at g1 g2
 rw [g1] at x2
 obtain ⟨g4, g5, g6⟩ := ex_drop_len x2 (by omega)
 have hl := hcx.len
 have HB1 : Hid (l.length - (nx (l.drop (k + 1))).length = y1) := by show _ = _; rw [nx_of x1 (by omega)]; exact hy1
 have HN1 : Hid (nx (l.drop (k + 1)) = l.drop y1) := by show _ = _; rw [nx_of x1 (by omega)]; exact g1
 have HC1 := Lib.hid (fun S1 n1 ov1 w3 hd3 hg3 => HD w0 A c E b l S1 n1 ov1 w3 y1 r2 hcx hd3 hg3 x2 (by omega))
 have HGE := Lib.hid (ev_good d (by omega) _ _ x2)
 have hk1 : k + 1 < l.length := by omega
 have hy1l : y1 < l.length := by omega
 clear hx3 x1 x2 g1 g2 g3 g4 g5 g6 hy1
 clear hcx hd hg ho hrn hx hd24 HD
 go_enter_defers Tryz.func166, Tryz.ntmps166
 go_wp2_with (fail)
 refine (HP.out).mono ?_
 rintro e w3 ⟨p0, p1, p2, x, S1, n1, ov1, rfl, ha, r0, r1, r2, hgd, hd3, hm3, hx3⟩
 have HA := Lib.hid ha; have R0 := Lib.hid r0; have R1 := Lib.hid r1; have R2 := Lib.hid r2; have HG := Lib.hid hgd; have HD3 := Lib.hid hd3; have HM3 := Lib.hid hm3; have HX3 := Lib.hid hx3
 have hlZ := hx3.blk.lt
 clear ha r0 r1 r2 hgd hd3 hm3 hx3 HP
 rcases HA.out.cases with ⟨hx0, hX⟩ | ⟨rfl, a, ha, hX⟩
 · have HX0 := Lib.hid hx0; have HXX := Lib.hid hX
   have hx1 : (x == 0) = false := by simpa using hx0
   have hx2 : (x != 0) = true := by simpa using hx0
   clear hx0 hX HA
   obtain ⟨cX0, cX1, cX2, cX3, cX4, zX0, zX1, zX2, zX3, zX4, hltX⟩ := HX3.out.fiv
   go_wp2_with (fail)
   have hd9 := ((HD3.out.puts HX3.out 0 zz).old (box1 _ (.cells #[.int .i64 p0.k, .int .i64 p0.n, .string (tx p0.s), .int .i64 p0.x, .int .i64 p0.y, .int .i64 p1.k, .int .i64 p1.n, .string (tx p1.s), .int .i64 p1.x, .int .i64 p1.y, .int .i64 p2.k, .int .i64 p2.n, .string (tx p2.s), .int .i64 p2.x, .int .i64 p2.y] 217)))
   have hm9 := ((Mv.puts (B := w.heap.size) HM3.out (by omega) 0 zz).old (box1 _ (.cells #[.int .i64 p0.k, .int .i64 p0.n, .string (tx p0.s), .int .i64 p0.x, .int .i64 p0.y, .int .i64 p1.k, .int .i64 p1.n, .string (tx p1.s), .int .i64 p1.x, .int .i64 p1.y, .int .i64 p2.k, .int .i64 p2.n, .string (tx p2.s), .int .i64 p2.x, .int .i64 p2.y] 217)))
   have hxX := ((Box.puts (HX3.out) zz rfl).old (box1 _ (.cells #[.int .i64 p0.k, .int .i64 p0.n, .string (tx p0.s), .int .i64 p0.x, .int .i64 p0.y, .int .i64 p1.k, .int .i64 p1.n, .string (tx p1.s), .int .i64 p1.x, .int .i64 p1.y, .int .i64 p2.k, .int .i64 p2.n, .string (tx p2.s), .int .i64 p2.x, .int .i64 p2.y] 217)))
   clear cX0 cX1 cX2 cX3 cX4 zX0 zX1 zX2 zX3 zX4 HD3 HM3 HX3 
   change bodyPostD _ _ _ _ _ ((((((w3.setCell ⟨w.heap.size, 0, none⟩ (.int .i64 0)).setCell ⟨w.heap.size, 1, none⟩ (.int .i64 0)).setCell ⟨w.heap.size, 2, none⟩ (.string ⟨#[]⟩)).setCell ⟨w.heap.size, 3, none⟩ (.int .i64 0)).setCell ⟨w.heap.size, 4, none⟩ (.int .i64 0)).alloc (.cells #[.int .i64 p0.k, .int .i64 p0.n, .string (tx p0.s), .int .i64 p0.x, .int .i64 p0.y, .int .i64 p1.k, .int .i64 p1.n, .string (tx p1.s), .int .i64 p1.x, .int .i64 p1.y, .int .i64 p2.k, .int .i64 p2.n, .string (tx p2.s), .int .i64 p2.x, .int .i64 p2.y] 217))
   change Doer _ _ _ _ _ _ _ _ _ (((((((w3.setCell ⟨w.heap.size, 0, none⟩ (.int .i64 0)).setCell ⟨w.heap.size, 1, none⟩ (.int .i64 0)).setCell ⟨w.heap.size, 2, none⟩ (.string ⟨#[]⟩)).setCell ⟨w.heap.size, 3, none⟩ (.int .i64 0)).setCell ⟨w.heap.size, 4, none⟩ (.int .i64 0)).alloc (.cells #[.int .i64 p0.k, .int .i64 p0.n, .string (tx p0.s), .int .i64 p0.x, .int .i64 p0.y, .int .i64 p1.k, .int .i64 p1.n, .string (tx p1.s), .int .i64 p1.x, .int .i64 p1.y, .int .i64 p2.k, .int .i64 p2.n, .string (tx p2.s), .int .i64 p2.x, .int .i64 p2.y] 217))) at hd9
   change Mv _ _ _ _ (((((((w3.setCell ⟨w.heap.size, 0, none⟩ (.int .i64 0)).setCell ⟨w.heap.size, 1, none⟩ (.int .i64 0)).setCell ⟨w.heap.size, 2, none⟩ (.string ⟨#[]⟩)).setCell ⟨w.heap.size, 3, none⟩ (.int .i64 0)).setCell ⟨w.heap.size, 4, none⟩ (.int .i64 0)).alloc (.cells #[.int .i64 p0.k, .int .i64 p0.n, .string (tx p0.s), .int .i64 p0.x, .int .i64 p0.y, .int .i64 p1.k, .int .i64 p1.n, .string (tx p1.s), .int .i64 p1.x, .int .i64 p1.y, .int .i64 p2.k, .int .i64 p2.n, .string (tx p2.s), .int .i64 p2.x, .int .i64 p2.y] 217))) at hm9
   change Box _ _ _ _ _ _ (((((((w3.setCell ⟨w.heap.size, 0, none⟩ (.int .i64 0)).setCell ⟨w.heap.size, 1, none⟩ (.int .i64 0)).setCell ⟨w.heap.size, 2, none⟩ (.string ⟨#[]⟩)).setCell ⟨w.heap.size, 3, none⟩ (.int .i64 0)).setCell ⟨w.heap.size, 4, none⟩ (.int .i64 0)).alloc (.cells #[.int .i64 p0.k, .int .i64 p0.n, .string (tx p0.s), .int .i64 p0.x, .int .i64 p0.y, .int .i64 p1.k, .int .i64 p1.n, .string (tx p1.s), .int .i64 p1.x, .int .i64 p1.y, .int .i64 p2.k, .int .i64 p2.n, .string (tx p2.s), .int .i64 p2.x, .int .i64 p2.y] 217))) at hxX
   generalize (((((((w3.setCell ⟨w.heap.size, 0, none⟩ (.int .i64 0)).setCell ⟨w.heap.size, 1, none⟩ (.int .i64 0)).setCell ⟨w.heap.size, 2, none⟩ (.string ⟨#[]⟩)).setCell ⟨w.heap.size, 3, none⟩ (.int .i64 0)).setCell ⟨w.heap.size, 4, none⟩ (.int .i64 0)).alloc (.cells #[.int .i64 p0.k, .int .i64 p0.n, .string (tx p0.s), .int .i64 p0.x, .int .i64 p0.y, .int .i64 p1.k, .int .i64 p1.n, .string (tx p1.s), .int .i64 p1.x, .int .i64 p1.y, .int .i64 p2.k, .int .i64 p2.n, .string (tx p2.s), .int .i64 p2.x, .int .i64 p2.y] 217))) = w9 at *
   have cX0 := hxX.blk.c 0 _ rfl
   have cX1 := hxX.blk.c 1 _ rfl
   have cX2 := hxX.blk.c 2 _ rfl
   have cX3 := hxX.blk.c 3 _ rfl
   have cX4 := hxX.blk.c 4 _ rfl
   refine ⟨.tuple #[.agg zz, .int .i64 x], by simp [results, Tryz.results166, go_sem, cX0, cX1, cX2, cX3, cX4], ⟨vz, x, S1, n1, ov1, rfl, by rw [HBD.out]; exact Ans.er (bnd_er HXX.out) rfl HX0.out, hd9, hm9⟩⟩
 · have HXX := Lib.hid hX; have HAA := Lib.hid ha; have HGD := Lib.hid (HG.out rfl)
   clear hX ha HA HG
   have hlb3 := HD3.out.blk.lt
   have d0 := HD3.out.blk.c 52 _ rfl
   have d1 := HD3.out.blk.c 53 _ rfl
   have d2 := HD3.out.blk.c 54 _ rfl
   have d3 := HD3.out.blk.c 55 _ rfl
   have d4 := HD3.out.blk.c 56 _ rfl
   go_wp2_with (fail)
   have HS := Lib.hid (stand4_any _ p0 (HD3.out.old (box1 w3 (.cells #[.int .i64 p0.k, .int .i64 p0.n, .string (tx p0.s), .int .i64 p0.x, .int .i64 p0.y, .int .i64 p1.k, .int .i64 p1.n, .string (tx p1.s), .int .i64 p1.x, .int .i64 p1.y, .int .i64 p2.k, .int .i64 p2.n, .string (tx p2.s), .int .i64 p2.x, .int .i64 p2.y] 217))))
   refine (HS.out).mono ?_
   rintro e w4 ⟨rfl, hd4, hm4⟩
   have HD4 := Lib.hid hd4; have HX4 := Lib.hid ((HX3.out.old (box1 w3 (.cells #[.int .i64 p0.k, .int .i64 p0.n, .string (tx p0.s), .int .i64 p0.x, .int .i64 p0.y, .int .i64 p1.k, .int .i64 p1.n, .string (tx p1.s), .int .i64 p1.x, .int .i64 p1.y, .int .i64 p2.k, .int .i64 p2.n, .string (tx p2.s), .int .i64 p2.x, .int .i64 p2.y] 217))).mv hm4); have HM4 := Lib.hid ((HM3.out.old (box1 w3 (.cells #[.int .i64 p0.k, .int .i64 p0.n, .string (tx p0.s), .int .i64 p0.x, .int .i64 p0.y, .int .i64 p1.k, .int .i64 p1.n, .string (tx p1.s), .int .i64 p1.x, .int .i64 p1.y, .int .i64 p2.k, .int .i64 p2.n, .string (tx p2.s), .int .i64 p2.x, .int .i64 p2.y] 217))).trans hm4)
   clear hd4 hm4 HD3 HX3 HM3 HS d0 d1 d2 d3 d4
   have HS := Lib.hid (second_any _ k HD4.out hk1 hl)
   rw [HB1.out] at HS
   go_wp2_with (fail)
   refine (HS.out).mono ?_
   rintro e w5 ⟨rfl, hb⟩
   have HD5 := Lib.hid (HD4.out.old hb)
   have HM5 := Lib.hid (HM4.out.old hb)
   have HX5 := Lib.hid (HX4.out.old hb)
   clear hb HD4 HM4 HX4  HS
   have HCC := Lib.hid (HC1.out _ n1 ov1 w5 HD5.out ⟨HGD.out.key, HGD.out.val, HGD.out.acc, HGD.out.i, R0.out, HGD.out.out, HGD.out.fuel⟩)
   go_wp2_with (fail)
   refine HCC.out.mono ?_
   rintro e w6 ⟨v, x, S2, n2, ov2, rfl, ha6, hd6, hm6⟩
   have HA6 := Lib.hid ha6; have HD6 := Lib.hid hd6; have HM6 := Lib.hid (HM5.out.trans hm6); have HX6 := Lib.hid (HX5.out.mv hm6)
   clear ha6 hd6 hm6 HD5 HM5 HX5 HCC 
   obtain ⟨cX0, cX1, cX2, cX3, cX4, zX0, zX1, zX2, zX3, zX4, hltX⟩ := HX6.out.fiv
   go_wp2_with (fail)
   have hd9 := (HD6.out.puts HX6.out 0 v)
   have hm9 := (Mv.puts (B := w.heap.size) HM6.out (by omega) 0 v)
   have hxX := (Box.puts (HX6.out) v rfl)
   clear cX0 cX1 cX2 cX3 cX4 zX0 zX1 zX2 zX3 zX4 HD6 HM6 HX6 
   change bodyPostD _ _ _ _ _ (((((w6.setCell ⟨w.heap.size, 0, none⟩ (.int .i64 v.k)).setCell ⟨w.heap.size, 1, none⟩ (.int .i64 v.n)).setCell ⟨w.heap.size, 2, none⟩ (.string (tx v.s))).setCell ⟨w.heap.size, 3, none⟩ (.int .i64 v.x)).setCell ⟨w.heap.size, 4, none⟩ (.int .i64 v.y))
   change Doer _ _ _ _ _ _ _ _ _ ((((((w6.setCell ⟨w.heap.size, 0, none⟩ (.int .i64 v.k)).setCell ⟨w.heap.size, 1, none⟩ (.int .i64 v.n)).setCell ⟨w.heap.size, 2, none⟩ (.string (tx v.s))).setCell ⟨w.heap.size, 3, none⟩ (.int .i64 v.x)).setCell ⟨w.heap.size, 4, none⟩ (.int .i64 v.y))) at hd9
   change Mv _ _ _ _ ((((((w6.setCell ⟨w.heap.size, 0, none⟩ (.int .i64 v.k)).setCell ⟨w.heap.size, 1, none⟩ (.int .i64 v.n)).setCell ⟨w.heap.size, 2, none⟩ (.string (tx v.s))).setCell ⟨w.heap.size, 3, none⟩ (.int .i64 v.x)).setCell ⟨w.heap.size, 4, none⟩ (.int .i64 v.y))) at hm9
   change Box _ _ _ _ _ _ ((((((w6.setCell ⟨w.heap.size, 0, none⟩ (.int .i64 v.k)).setCell ⟨w.heap.size, 1, none⟩ (.int .i64 v.n)).setCell ⟨w.heap.size, 2, none⟩ (.string (tx v.s))).setCell ⟨w.heap.size, 3, none⟩ (.int .i64 v.x)).setCell ⟨w.heap.size, 4, none⟩ (.int .i64 v.y))) at hxX
   generalize ((((((w6.setCell ⟨w.heap.size, 0, none⟩ (.int .i64 v.k)).setCell ⟨w.heap.size, 1, none⟩ (.int .i64 v.n)).setCell ⟨w.heap.size, 2, none⟩ (.string (tx v.s))).setCell ⟨w.heap.size, 3, none⟩ (.int .i64 v.x)).setCell ⟨w.heap.size, 4, none⟩ (.int .i64 v.y))) = w9 at *
   have cX0 := hxX.blk.c 0 _ rfl
   have cX1 := hxX.blk.c 1 _ rfl
   have cX2 := hxX.blk.c 2 _ rfl
   have cX3 := hxX.blk.c 3 _ rfl
   have cX4 := hxX.blk.c 4 _ rfl
   refine leaves_cons (f := 217) (args := #[.pointer (some ⟨b, 0, none⟩), .int .i64 4, .agg #[.int .i64 S1.it.k, .int .i64 S1.it.n, .string (tx S1.it.s), .int .i64 S1.it.x, .int .i64 S1.it.y]]) (by simp) (by simp [go_sem]) ?_
   refine (stand4_def w9 S1.it hd9 .returning).mono ?_
   rintro e u w10 ⟨rfl, rfl, hd10, hm10⟩
   have hx10 := hxX.mv hm10
   have kX0 := hx10.blk.c 0 _ rfl; have kX1 := hx10.blk.c 1 _ rfl; have kX2 := hx10.blk.c 2 _ rfl; have kX3 := hx10.blk.c 3 _ rfl; have kX4 := hx10.blk.c 4 _ rfl
   refine ⟨.tuple #[.agg v, .int .i64 x], by simp [results, Tryz.results166, go_sem, kX0, kX1, kX2, kX3, kX4], ⟨v, x, { S2 with it := S1.it }, n2, ov2, rfl, by rw [HBD.out, bnd_ok HXX.out, HN1.out]; obtain ⟨rfl, rfl, rfl⟩ := HAA.out; exact withIt_ans HA6.out, hd10, hm9.trans hm10⟩⟩
end Go.Proofs.YtimllihegnokeaaGreatDoor.Ev

/-
  A text of this claim: JoSlots.
-/
import Derived.Test.YtimllihegnokeaaGreatDoorQ7
import Derived.Test.YtimllihegnokeaaGreatDoorQ3
namespace Go.Proofs.YtimllihegnokeaaGreatDoor.Jo
open Go.ChangeShapes Go.WideShapes Go.ChangeAt Go.RowKit Ov Va Ex
inductive Kd where | ptr (c : Nat) | fn (T : Tk) | ln (T : Tk) (kw : List UInt8) | lns (ls : List (List UInt8 × Tk)) | slot (x : Slt) | arr (is : List Nat) | all
def kd (b : Nat) : Kd → Value → World → Prop
 | .ptr c, v, _ => v = .pointer (some ⟨b, c, none⟩)
 | .fn T, v, w => ∃ p, v = .func (.func (tfn T)) #[] #[.pointer (some ⟨p, 0, none⟩)] ∧ TkM w b T p
 | .ln T kw, v, w => ∃ p, v = .agg #[.string (tx kw), .func (.func (tfn T)) #[] #[.pointer (some ⟨p, 0, none⟩)]] ∧ TkM w b T p
 | .lns ls, v, w => ∃ L, v = .slice (some ⟨L, 0, none⟩) ls.length ls.length ∧ SlM w b L ls ∧ L ≠ b
 | .slot x, v, w => ∃ L, v = .agg #[.slice (some ⟨L, 0, none⟩) x.1.length x.1.length, .bool x.2] ∧ SlM w b L x.1 ∧ L ≠ b
 | .arr is, v, w => ∃ q, v = .slice (some ⟨q, 0, none⟩) is.length is.length ∧ (∀ k i, is[k]? = some i → w.cell? ⟨q, k, none⟩ = some (.pointer (some ⟨b, i, none⟩))) ∧ q ≠ b
 | .all, v, w => ∃ S, v = .slice (some ⟨S, 0, none⟩) 9 9 ∧ SLS w b S ∧ S ≠ b
theorem SLS.tur {w w' : World} {b S : Nat} (h : SLS w b S) (k : Tur b w w') (hS : S ≠ b) : SLS w' b S := fun n x e => by
 obtain ⟨L, c, h1, h2, h3, h4⟩ := h n x e
 exact ⟨L, c, (k.cell (p := ⟨S, n * 2, none⟩) hS (block_lt_of_cell h1)).trans h1, (k.cell (p := ⟨S, n * 2 + 1, none⟩) hS (block_lt_of_cell h2)).trans h2, h3.tur k h4, h4⟩
theorem kd_mono {b : Nat} {w w' : World} {v : Value} (hb : Below w.heap.size w w') : ∀ {k : Kd}, kd b k v w → kd b k v w'
 | .ptr _, h => h
 | .fn _, ⟨p, e, h⟩ => ⟨p, e, h.tur (Below.tur hb)⟩
 | .ln _ _, ⟨p, e, h⟩ => ⟨p, e, h.tur (Below.tur hb)⟩
 | .lns _, ⟨L, e, h, n⟩ => ⟨L, e, h.tur (Below.tur hb) n, n⟩
 | .slot _, ⟨L, e, h, n⟩ => ⟨L, e, h.tur (Below.tur hb) n, n⟩
 | .arr _, ⟨q, e, h, n⟩ => ⟨q, e, fun k i hk => (hb.cell (p := ⟨q, k, none⟩) (block_lt_of_cell (h k i hk))).trans (h k i hk), n⟩
 | .all, ⟨S, e, h, n⟩ => ⟨S, e, h.tur (Below.tur hb) n, n⟩
def kds : List Kd := [.ptr 0, .ptr 0, .ptr 0, .fn .nm, .ln .nm kJob, .lns [(kJob, .nm)], .slot ([(kJob, .nm)], false), .ptr 0, .ptr 0, .ptr 1, .arr [1], .fn .t, .ln .t kTasks, .lns [(kTasks, .t)], .slot ([(kTasks, .t)], false), .ptr 0, .ptr 0, .ptr 2, .arr [2], .fn .p, .ln .p kParts, .lns [(kParts, .p)], .slot ([(kParts, .p)], false), .ptr 0, .ptr 0, .ptr 3, .ptr 0, .ptr 0, .ptr 4, .arr [3, 4], .fn .kn, .ln .kn kCode, .lns [(kCode, .kn)], .slot ([(kCode, .kn)], false), .ptr 0, .ptr 0, .ptr 5, .arr [5], .fn .f, .ln .f kFuel, .lns [(kFuel, .f)], .slot ([(kFuel, .f)], false), .ptr 0, .ptr 0, .ptr 6, .fn .m, .ln .m kMap, .lns [(kMap, .m)], .slot ([(kMap, .m)], false), .ptr 0, .ptr 0, .ptr 7, .fn .b, .ln .b kBy, .lns [(kBy, .b)], .slot ([(kBy, .b)], true), .ptr 0, .ptr 0, .ptr 9, .fn .fd, .ln .fd kFold, .ptr 0, .ptr 0, .ptr 8, .fn .r, .ln .r kReduce, .lns [(kFold, .fd), (kReduce, .r)], .slot ([(kFold, .fd), (kReduce, .r)], false), .ptr 0, .ptr 0, .ptr 10, .fn .cb, .ln .cb kComb, .lns [(kComb, .cb)], .slot ([(kComb, .cb)], false), .all, .all]
def sps (b : Nat) (j : Nat) (v : Value) (w : World) : Prop := match kds[j]? with | some k => kd b k v w | none => True
theorem sps_mono (b : Nat) : ∀ j v w w', Below w.heap.size w w' → sps b j v w → sps b j v w' := fun j v w w' hb h => by
 unfold sps at *
 cases e : kds[j]? with
 | none => trivial
 | some k => rw [e] at h; exact kd_mono hb h
section
variable {o : Oper} {a : Act} {w : World} {Q : Exit → Act → World → Prop} {S : Value → World → Prop}
def rho (l : List (Tmp × Value)) : Operand → Value
 | .tmp t => (l.lookup t).getD undef
 | .const v => v
 | .global g => .pointer (some ⟨g, 0, none⟩)
 | .func f => .func (.func f) #[] #[]
theorem run_rho {P : Program} {r : Result Next} (l : List (Tmp × Value)) (hs : ∀ cs b, o.op ≠ .select cs b) (h : ∀ x ∈ o.op.operands, a.eval x = rho l x) (hr : (execOp (rho l) o).run P w = r) : (execOp a.eval o).run P w = r := by
 rw [execOp_congr o hs h]; exact hr
theorem Act.eval_const (a : Act) (v : Value) : a.eval (.const v) = v := rfl
theorem Act.eval_func (a : Act) (f : FuncId) : a.eval (.func f) = .func (.func f) #[] #[] := rfl
theorem y_ok {v : Value} {w' : World} (h : (execOp a.eval o).run Tryz.prog w = .ok (.value v) w') (hb : Below w.heap.size w w') (hs : S v w') (K : Act → World → Prop) (hK : ∀ v w', Below w.heap.size w w' → S v w' → K (a.put o.dst v) w') : o.wp Tryz.prog a w K Q := by
 unfold Oper.wp; rw [h]; exact hK v w' hb hs
theorem y_call {f : FuncId} {args : Array Value} (h : (execOp a.eval o).run Tryz.prog w = .ok (.enter f args) w) (hc : Calls Tryz.prog f args w fun e w' => ∃ v, e = .returned v ∧ Below w.heap.size w w' ∧ S v w') (K : Act → World → Prop) (hK : ∀ v w', Below w.heap.size w w' → S v w' → K (a.put o.dst v) w') : o.wp Tryz.prog a w K Q := by
 unfold Oper.wp; rw [h]
 exact hc.mono fun e w' ⟨v, he, hb, hs⟩ => by subst he; exact hK v w' hb hs
end
set_option maxHeartbeats 16000000 in
set_option maxRecDepth 100000 in
theorem slots_any (b : Nat) (w : World) (hb : b < w.heap.size) : Calls Tryz.prog 39 #[.pointer (some ⟨b, 0, none⟩)] w (fun e w' => ∃ S, e = .returned (.slice (some ⟨S, 0, none⟩) 9 9) ∧ Below w.heap.size w w' ∧ SLS w' b S ∧ S ≠ b) := by
 go_enter Tryz.func39, Tryz.ntmps39
 go_wp2_with (fail)
 refine wp_region_free (sps b) (sps_mono b) (by kernel_rfl) (N := 79) (v0 := .pointer (some ⟨b, 0, none⟩)) (by kernel_rfl) ?_ ?_ rfl rfl rfl 1
 · intro i o ho a z h0 hbz he
   have hlo : b < z.heap.size := Nat.lt_of_lt_of_le hb hbz.size
   match i, ho with
   | 0, ho =>
     injection ho with ho; subst ho
     exact y_ok (v := .pointer (some ⟨b, 0, none⟩)) (run_rho [(0, .pointer (some ⟨b, 0, none⟩))] (fun _ _ e => by cases e) (show ∀ x ∈ (#[.tmp 0] : Array Operand), a.eval x = rho [(0, .pointer (some ⟨b, 0, none⟩))] x by simp [rho, List.lookup, h0]) (by kernel_rfl)) (Below.refl _ _) rfl
   | 1, ho =>
     have g0 : kd b (.ptr 0) (a.eval (.tmp 3)) z := he ⟨0, .data⟩ (by injection ho with ho; subst ho; simp) rfl _ _ rfl rfl
     injection ho with ho; subst ho
     exact y_ok (v := .pointer (some ⟨b, 0, none⟩)) (run_rho [(3, .pointer (some ⟨b, 0, none⟩))] (fun _ _ e => by cases e) (show ∀ x ∈ (#[.tmp 3] : Array Operand), a.eval x = rho [(3, .pointer (some ⟨b, 0, none⟩))] x by simp [rho, List.lookup, show a.eval (.tmp 3) = _ from g0]) (by kernel_rfl)) (Below.refl _ _) rfl
   | 2, ho =>
     have g0 : kd b (.ptr 0) (a.eval (.tmp 4)) z := he ⟨1, .data⟩ (by injection ho with ho; subst ho; simp) rfl _ _ rfl rfl
     injection ho with ho; subst ho
     exact y_ok (v := .pointer (some ⟨b, 0, none⟩)) (run_rho [(4, .pointer (some ⟨b, 0, none⟩))] (fun _ _ e => by cases e) (show ∀ x ∈ (#[.tmp 4] : Array Operand), a.eval x = rho [(4, .pointer (some ⟨b, 0, none⟩))] x by simp [rho, List.lookup, show a.eval (.tmp 4) = _ from g0]) (by kernel_rfl)) (Below.refl _ _) rfl
   | 3, ho =>
     have g0 : kd b (.ptr 0) (a.eval (.tmp 5)) z := he ⟨2, .data⟩ (by injection ho with ho; subst ho; simp) rfl _ _ rfl rfl
     injection ho with ho; subst ho
     refine y_call (f := 72) (args := #[.pointer (some ⟨b, 0, none⟩)]) (run_rho [(5, .pointer (some ⟨b, 0, none⟩))] (fun _ _ e => by cases e) (show ∀ x ∈ (#[.func 72, .tmp 5] : Array Operand), a.eval x = rho [(5, .pointer (some ⟨b, 0, none⟩))] x by simp [rho, List.lookup, show a.eval (.tmp 5) = _ from g0, Act.eval_func]) (by kernel_rfl)) ((mword_any _ _).mono ?_)
     rintro e z2 ⟨p, rfl, hp, hc, hb2⟩
     exact ⟨_, rfl, hb2, p, rfl, hc, by omega⟩
   | 4, ho =>
     have g0 : kd b (.fn .nm) (a.eval (.tmp 6)) z := he ⟨3, .data⟩ (by injection ho with ho; subst ho; simp) rfl _ _ rfl rfl
     injection ho with ho; subst ho
     obtain ⟨p, e0, h⟩ := g0
     exact y_ok (v := .agg #[.string (tx kJob), .func (.func (tfn .nm)) #[] #[.pointer (some ⟨p, 0, none⟩)]]) (run_rho [(6, .func (.func (tfn .nm)) #[] #[.pointer (some ⟨p, 0, none⟩)])] (fun _ _ e => by cases e) (show ∀ x ∈ (#[.const (.string ⟨#[106, 111, 98]⟩), .tmp 6] : Array Operand), a.eval x = rho [(6, .func (.func (tfn .nm)) #[] #[.pointer (some ⟨p, 0, none⟩)])] x by simp [rho, List.lookup, e0, Act.eval_const]) (by kernel_rfl)) (Below.refl _ _) ⟨p, rfl, h⟩
   | 5, ho =>
     have g0 : kd b (.ln .nm kJob) (a.eval (.tmp 7)) z := he ⟨4, .data⟩ (by injection ho with ho; subst ho; simp) rfl _ _ rfl rfl
     injection ho with ho; subst ho
     obtain ⟨p0, e0, h0⟩ := g0
     exact y_ok (v := .slice (some ⟨z.heap.size, 0, none⟩) 1 1) (w' := z.alloc (.cells #[.string (tx kJob), .func (.func (tfn .nm)) #[] #[.pointer (some ⟨p0, 0, none⟩)]] 126)) (run_rho [(7, .agg #[.string (tx kJob), .func (.func (tfn .nm)) #[] #[.pointer (some ⟨p0, 0, none⟩)]])] (fun _ _ e => by cases e) (show ∀ x ∈ (#[.tmp 7] : Array Operand), a.eval x = rho [(7, .agg #[.string (tx kJob), .func (.func (tfn .nm)) #[] #[.pointer (some ⟨p0, 0, none⟩)]])] x by simp [rho, List.lookup, e0]) (by kernel_rfl)) (box1 _ _) ⟨_, rfl, slm1 (Blk.made z 126 [.string (tx kJob), .func (.func (tfn .nm)) #[] #[.pointer (some ⟨p0, 0, none⟩)]] rfl) (h0.tur (Below.tur (box1 _ _))), by omega⟩
   | 6, ho =>
     have g0 : kd b (.lns [(kJob, .nm)]) (a.eval (.tmp 8)) z := he ⟨5, .data⟩ (by injection ho with ho; subst ho; simp) rfl _ _ rfl rfl
     injection ho with ho; subst ho
     obtain ⟨L, e0, h⟩ := g0
     change a.eval (.tmp 8) = .slice (some ⟨L, 0, none⟩) 1 1 at e0
     exact y_ok (v := .agg #[.slice (some ⟨L, 0, none⟩) 1 1, .bool false]) (run_rho [(8, .slice (some ⟨L, 0, none⟩) 1 1)] (fun _ _ e => by cases e) (show ∀ x ∈ (#[.tmp 8] : Array Operand), a.eval x = rho [(8, .slice (some ⟨L, 0, none⟩) 1 1)] x by simp [rho, List.lookup, e0]) (by kernel_rfl)) (Below.refl _ _) ⟨L, rfl, h⟩
   | 7, ho =>
     injection ho with ho; subst ho
     exact y_ok (v := .pointer (some ⟨b, 0, none⟩)) (run_rho [(0, .pointer (some ⟨b, 0, none⟩))] (fun _ _ e => by cases e) (show ∀ x ∈ (#[.tmp 0] : Array Operand), a.eval x = rho [(0, .pointer (some ⟨b, 0, none⟩))] x by simp [rho, List.lookup, h0]) (by kernel_rfl)) (Below.refl _ _) rfl
   | 8, ho =>
     have g0 : kd b (.ptr 0) (a.eval (.tmp 10)) z := he ⟨7, .data⟩ (by injection ho with ho; subst ho; simp) rfl _ _ rfl rfl
     injection ho with ho; subst ho
     exact y_ok (v := .pointer (some ⟨b, 0, none⟩)) (run_rho [(10, .pointer (some ⟨b, 0, none⟩))] (fun _ _ e => by cases e) (show ∀ x ∈ (#[.tmp 10] : Array Operand), a.eval x = rho [(10, .pointer (some ⟨b, 0, none⟩))] x by simp [rho, List.lookup, show a.eval (.tmp 10) = _ from g0]) (by kernel_rfl)) (Below.refl _ _) rfl
   | 9, ho =>
     have g0 : kd b (.ptr 0) (a.eval (.tmp 11)) z := he ⟨8, .data⟩ (by injection ho with ho; subst ho; simp) rfl _ _ rfl rfl
     injection ho with ho; subst ho
     exact y_ok (v := .pointer (some ⟨b, 1, none⟩)) (run_rho [(11, .pointer (some ⟨b, 0, none⟩))] (fun _ _ e => by cases e) (show ∀ x ∈ (#[.tmp 11] : Array Operand), a.eval x = rho [(11, .pointer (some ⟨b, 0, none⟩))] x by simp [rho, List.lookup, show a.eval (.tmp 11) = _ from g0]) (by kernel_rfl)) (Below.refl _ _) rfl
   | 10, ho =>
     have g0 : kd b (.ptr 1) (a.eval (.tmp 12)) z := he ⟨9, .data⟩ (by injection ho with ho; subst ho; simp) rfl _ _ rfl rfl
     injection ho with ho; subst ho
     exact y_ok (v := .slice (some ⟨z.heap.size, 0, none⟩) 1 1) (w' := z.alloc (.cells #[.pointer (some ⟨b, 1, none⟩)] 128)) (run_rho [(12, .pointer (some ⟨b, 1, none⟩))] (fun _ _ e => by cases e) (show ∀ x ∈ (#[.tmp 12] : Array Operand), a.eval x = rho [(12, .pointer (some ⟨b, 1, none⟩))] x by simp [rho, List.lookup, show a.eval (.tmp 12) = _ from g0]) (by kernel_rfl)) (box1 _ _) ⟨_, rfl, fun k i hk => (Blk.made z 128 [.pointer (some ⟨b, 1, none⟩)] rfl).c k _ (by
      match k, hk with
      | 0, hk => injection hk with hk; subst hk; rfl), by omega⟩
   | 11, ho =>
     have g0 : kd b (.arr [1]) (a.eval (.tmp 13)) z := he ⟨10, .data⟩ (by injection ho with ho; subst ho; simp) rfl _ _ rfl rfl
     injection ho with ho; subst ho
     obtain ⟨q, e0, hq, hn⟩ := g0
     change a.eval (.tmp 13) = .slice (some ⟨q, 0, none⟩) 1 1 at e0
     refine y_call (f := 73) (args := #[.slice (some ⟨q, 0, none⟩) 1 1]) (run_rho [(13, .slice (some ⟨q, 0, none⟩) 1 1)] (fun _ _ e => by cases e) (show ∀ x ∈ (#[.func 73, .tmp 13] : Array Operand), a.eval x = rho [(13, .slice (some ⟨q, 0, none⟩) 1 1)] x by simp [rho, List.lookup, e0, Act.eval_func]) (by kernel_rfl)) ((mnum_any _ _ _ _).mono ?_)
     rintro e z2 ⟨p, rfl, hp, hc, hb2⟩
     exact ⟨_, rfl, hb2, p, rfl, q, 1, hc, fun k i hk => (hb2.cell (p := ⟨q, k, none⟩) (block_lt_of_cell (hq k i hk))).trans (hq k i hk), hn, by omega⟩
   | 12, ho =>
     have g0 : kd b (.fn .t) (a.eval (.tmp 14)) z := he ⟨11, .data⟩ (by injection ho with ho; subst ho; simp) rfl _ _ rfl rfl
     injection ho with ho; subst ho
     obtain ⟨p, e0, h⟩ := g0
     exact y_ok (v := .agg #[.string (tx kTasks), .func (.func (tfn .t)) #[] #[.pointer (some ⟨p, 0, none⟩)]]) (run_rho [(14, .func (.func (tfn .t)) #[] #[.pointer (some ⟨p, 0, none⟩)])] (fun _ _ e => by cases e) (show ∀ x ∈ (#[.const (.string ⟨#[116, 97, 115, 107, 115]⟩), .tmp 14] : Array Operand), a.eval x = rho [(14, .func (.func (tfn .t)) #[] #[.pointer (some ⟨p, 0, none⟩)])] x by simp [rho, List.lookup, e0, Act.eval_const]) (by kernel_rfl)) (Below.refl _ _) ⟨p, rfl, h⟩
   | 13, ho =>
     have g0 : kd b (.ln .t kTasks) (a.eval (.tmp 15)) z := he ⟨12, .data⟩ (by injection ho with ho; subst ho; simp) rfl _ _ rfl rfl
     injection ho with ho; subst ho
     obtain ⟨p0, e0, h0⟩ := g0
     exact y_ok (v := .slice (some ⟨z.heap.size, 0, none⟩) 1 1) (w' := z.alloc (.cells #[.string (tx kTasks), .func (.func (tfn .t)) #[] #[.pointer (some ⟨p0, 0, none⟩)]] 126)) (run_rho [(15, .agg #[.string (tx kTasks), .func (.func (tfn .t)) #[] #[.pointer (some ⟨p0, 0, none⟩)]])] (fun _ _ e => by cases e) (show ∀ x ∈ (#[.tmp 15] : Array Operand), a.eval x = rho [(15, .agg #[.string (tx kTasks), .func (.func (tfn .t)) #[] #[.pointer (some ⟨p0, 0, none⟩)]])] x by simp [rho, List.lookup, e0]) (by kernel_rfl)) (box1 _ _) ⟨_, rfl, slm1 (Blk.made z 126 [.string (tx kTasks), .func (.func (tfn .t)) #[] #[.pointer (some ⟨p0, 0, none⟩)]] rfl) (h0.tur (Below.tur (box1 _ _))), by omega⟩
   | 14, ho =>
     have g0 : kd b (.lns [(kTasks, .t)]) (a.eval (.tmp 16)) z := he ⟨13, .data⟩ (by injection ho with ho; subst ho; simp) rfl _ _ rfl rfl
     injection ho with ho; subst ho
     obtain ⟨L, e0, h⟩ := g0
     change a.eval (.tmp 16) = .slice (some ⟨L, 0, none⟩) 1 1 at e0
     exact y_ok (v := .agg #[.slice (some ⟨L, 0, none⟩) 1 1, .bool false]) (run_rho [(16, .slice (some ⟨L, 0, none⟩) 1 1)] (fun _ _ e => by cases e) (show ∀ x ∈ (#[.tmp 16] : Array Operand), a.eval x = rho [(16, .slice (some ⟨L, 0, none⟩) 1 1)] x by simp [rho, List.lookup, e0]) (by kernel_rfl)) (Below.refl _ _) ⟨L, rfl, h⟩
   | 15, ho =>
     injection ho with ho; subst ho
     exact y_ok (v := .pointer (some ⟨b, 0, none⟩)) (run_rho [(0, .pointer (some ⟨b, 0, none⟩))] (fun _ _ e => by cases e) (show ∀ x ∈ (#[.tmp 0] : Array Operand), a.eval x = rho [(0, .pointer (some ⟨b, 0, none⟩))] x by simp [rho, List.lookup, h0]) (by kernel_rfl)) (Below.refl _ _) rfl
   | 16, ho =>
     have g0 : kd b (.ptr 0) (a.eval (.tmp 18)) z := he ⟨15, .data⟩ (by injection ho with ho; subst ho; simp) rfl _ _ rfl rfl
     injection ho with ho; subst ho
     exact y_ok (v := .pointer (some ⟨b, 0, none⟩)) (run_rho [(18, .pointer (some ⟨b, 0, none⟩))] (fun _ _ e => by cases e) (show ∀ x ∈ (#[.tmp 18] : Array Operand), a.eval x = rho [(18, .pointer (some ⟨b, 0, none⟩))] x by simp [rho, List.lookup, show a.eval (.tmp 18) = _ from g0]) (by kernel_rfl)) (Below.refl _ _) rfl
   | 17, ho =>
     have g0 : kd b (.ptr 0) (a.eval (.tmp 19)) z := he ⟨16, .data⟩ (by injection ho with ho; subst ho; simp) rfl _ _ rfl rfl
     injection ho with ho; subst ho
     exact y_ok (v := .pointer (some ⟨b, 2, none⟩)) (run_rho [(19, .pointer (some ⟨b, 0, none⟩))] (fun _ _ e => by cases e) (show ∀ x ∈ (#[.tmp 19] : Array Operand), a.eval x = rho [(19, .pointer (some ⟨b, 0, none⟩))] x by simp [rho, List.lookup, show a.eval (.tmp 19) = _ from g0]) (by kernel_rfl)) (Below.refl _ _) rfl
   | 18, ho =>
     have g0 : kd b (.ptr 2) (a.eval (.tmp 20)) z := he ⟨17, .data⟩ (by injection ho with ho; subst ho; simp) rfl _ _ rfl rfl
     injection ho with ho; subst ho
     exact y_ok (v := .slice (some ⟨z.heap.size, 0, none⟩) 1 1) (w' := z.alloc (.cells #[.pointer (some ⟨b, 2, none⟩)] 128)) (run_rho [(20, .pointer (some ⟨b, 2, none⟩))] (fun _ _ e => by cases e) (show ∀ x ∈ (#[.tmp 20] : Array Operand), a.eval x = rho [(20, .pointer (some ⟨b, 2, none⟩))] x by simp [rho, List.lookup, show a.eval (.tmp 20) = _ from g0]) (by kernel_rfl)) (box1 _ _) ⟨_, rfl, fun k i hk => (Blk.made z 128 [.pointer (some ⟨b, 2, none⟩)] rfl).c k _ (by
      match k, hk with
      | 0, hk => injection hk with hk; subst hk; rfl), by omega⟩
   | 19, ho =>
     have g0 : kd b (.arr [2]) (a.eval (.tmp 21)) z := he ⟨18, .data⟩ (by injection ho with ho; subst ho; simp) rfl _ _ rfl rfl
     injection ho with ho; subst ho
     obtain ⟨q, e0, hq, hn⟩ := g0
     change a.eval (.tmp 21) = .slice (some ⟨q, 0, none⟩) 1 1 at e0
     refine y_call (f := 73) (args := #[.slice (some ⟨q, 0, none⟩) 1 1]) (run_rho [(21, .slice (some ⟨q, 0, none⟩) 1 1)] (fun _ _ e => by cases e) (show ∀ x ∈ (#[.func 73, .tmp 21] : Array Operand), a.eval x = rho [(21, .slice (some ⟨q, 0, none⟩) 1 1)] x by simp [rho, List.lookup, e0, Act.eval_func]) (by kernel_rfl)) ((mnum_any _ _ _ _).mono ?_)
     rintro e z2 ⟨p, rfl, hp, hc, hb2⟩
     exact ⟨_, rfl, hb2, p, rfl, q, 1, hc, fun k i hk => (hb2.cell (p := ⟨q, k, none⟩) (block_lt_of_cell (hq k i hk))).trans (hq k i hk), hn, by omega⟩
   | 20, ho =>
     have g0 : kd b (.fn .p) (a.eval (.tmp 22)) z := he ⟨19, .data⟩ (by injection ho with ho; subst ho; simp) rfl _ _ rfl rfl
     injection ho with ho; subst ho
     obtain ⟨p, e0, h⟩ := g0
     exact y_ok (v := .agg #[.string (tx kParts), .func (.func (tfn .p)) #[] #[.pointer (some ⟨p, 0, none⟩)]]) (run_rho [(22, .func (.func (tfn .p)) #[] #[.pointer (some ⟨p, 0, none⟩)])] (fun _ _ e => by cases e) (show ∀ x ∈ (#[.const (.string ⟨#[112, 97, 114, 116, 115]⟩), .tmp 22] : Array Operand), a.eval x = rho [(22, .func (.func (tfn .p)) #[] #[.pointer (some ⟨p, 0, none⟩)])] x by simp [rho, List.lookup, e0, Act.eval_const]) (by kernel_rfl)) (Below.refl _ _) ⟨p, rfl, h⟩
   | 21, ho =>
     have g0 : kd b (.ln .p kParts) (a.eval (.tmp 23)) z := he ⟨20, .data⟩ (by injection ho with ho; subst ho; simp) rfl _ _ rfl rfl
     injection ho with ho; subst ho
     obtain ⟨p0, e0, h0⟩ := g0
     exact y_ok (v := .slice (some ⟨z.heap.size, 0, none⟩) 1 1) (w' := z.alloc (.cells #[.string (tx kParts), .func (.func (tfn .p)) #[] #[.pointer (some ⟨p0, 0, none⟩)]] 126)) (run_rho [(23, .agg #[.string (tx kParts), .func (.func (tfn .p)) #[] #[.pointer (some ⟨p0, 0, none⟩)]])] (fun _ _ e => by cases e) (show ∀ x ∈ (#[.tmp 23] : Array Operand), a.eval x = rho [(23, .agg #[.string (tx kParts), .func (.func (tfn .p)) #[] #[.pointer (some ⟨p0, 0, none⟩)]])] x by simp [rho, List.lookup, e0]) (by kernel_rfl)) (box1 _ _) ⟨_, rfl, slm1 (Blk.made z 126 [.string (tx kParts), .func (.func (tfn .p)) #[] #[.pointer (some ⟨p0, 0, none⟩)]] rfl) (h0.tur (Below.tur (box1 _ _))), by omega⟩
   | 22, ho =>
     have g0 : kd b (.lns [(kParts, .p)]) (a.eval (.tmp 24)) z := he ⟨21, .data⟩ (by injection ho with ho; subst ho; simp) rfl _ _ rfl rfl
     injection ho with ho; subst ho
     obtain ⟨L, e0, h⟩ := g0
     change a.eval (.tmp 24) = .slice (some ⟨L, 0, none⟩) 1 1 at e0
     exact y_ok (v := .agg #[.slice (some ⟨L, 0, none⟩) 1 1, .bool false]) (run_rho [(24, .slice (some ⟨L, 0, none⟩) 1 1)] (fun _ _ e => by cases e) (show ∀ x ∈ (#[.tmp 24] : Array Operand), a.eval x = rho [(24, .slice (some ⟨L, 0, none⟩) 1 1)] x by simp [rho, List.lookup, e0]) (by kernel_rfl)) (Below.refl _ _) ⟨L, rfl, h⟩
   | 23, ho =>
     injection ho with ho; subst ho
     exact y_ok (v := .pointer (some ⟨b, 0, none⟩)) (run_rho [(0, .pointer (some ⟨b, 0, none⟩))] (fun _ _ e => by cases e) (show ∀ x ∈ (#[.tmp 0] : Array Operand), a.eval x = rho [(0, .pointer (some ⟨b, 0, none⟩))] x by simp [rho, List.lookup, h0]) (by kernel_rfl)) (Below.refl _ _) rfl
   | 24, ho =>
     have g0 : kd b (.ptr 0) (a.eval (.tmp 26)) z := he ⟨23, .data⟩ (by injection ho with ho; subst ho; simp) rfl _ _ rfl rfl
     injection ho with ho; subst ho
     exact y_ok (v := .pointer (some ⟨b, 0, none⟩)) (run_rho [(26, .pointer (some ⟨b, 0, none⟩))] (fun _ _ e => by cases e) (show ∀ x ∈ (#[.tmp 26] : Array Operand), a.eval x = rho [(26, .pointer (some ⟨b, 0, none⟩))] x by simp [rho, List.lookup, show a.eval (.tmp 26) = _ from g0]) (by kernel_rfl)) (Below.refl _ _) rfl
   | 25, ho =>
     have g0 : kd b (.ptr 0) (a.eval (.tmp 27)) z := he ⟨24, .data⟩ (by injection ho with ho; subst ho; simp) rfl _ _ rfl rfl
     injection ho with ho; subst ho
     exact y_ok (v := .pointer (some ⟨b, 3, none⟩)) (run_rho [(27, .pointer (some ⟨b, 0, none⟩))] (fun _ _ e => by cases e) (show ∀ x ∈ (#[.tmp 27] : Array Operand), a.eval x = rho [(27, .pointer (some ⟨b, 0, none⟩))] x by simp [rho, List.lookup, show a.eval (.tmp 27) = _ from g0]) (by kernel_rfl)) (Below.refl _ _) rfl
   | 26, ho =>
     injection ho with ho; subst ho
     exact y_ok (v := .pointer (some ⟨b, 0, none⟩)) (run_rho [(0, .pointer (some ⟨b, 0, none⟩))] (fun _ _ e => by cases e) (show ∀ x ∈ (#[.tmp 0] : Array Operand), a.eval x = rho [(0, .pointer (some ⟨b, 0, none⟩))] x by simp [rho, List.lookup, h0]) (by kernel_rfl)) (Below.refl _ _) rfl
   | 27, ho =>
     have g0 : kd b (.ptr 0) (a.eval (.tmp 29)) z := he ⟨26, .data⟩ (by injection ho with ho; subst ho; simp) rfl _ _ rfl rfl
     injection ho with ho; subst ho
     exact y_ok (v := .pointer (some ⟨b, 0, none⟩)) (run_rho [(29, .pointer (some ⟨b, 0, none⟩))] (fun _ _ e => by cases e) (show ∀ x ∈ (#[.tmp 29] : Array Operand), a.eval x = rho [(29, .pointer (some ⟨b, 0, none⟩))] x by simp [rho, List.lookup, show a.eval (.tmp 29) = _ from g0]) (by kernel_rfl)) (Below.refl _ _) rfl
   | 28, ho =>
     have g0 : kd b (.ptr 0) (a.eval (.tmp 30)) z := he ⟨27, .data⟩ (by injection ho with ho; subst ho; simp) rfl _ _ rfl rfl
     injection ho with ho; subst ho
     exact y_ok (v := .pointer (some ⟨b, 4, none⟩)) (run_rho [(30, .pointer (some ⟨b, 0, none⟩))] (fun _ _ e => by cases e) (show ∀ x ∈ (#[.tmp 30] : Array Operand), a.eval x = rho [(30, .pointer (some ⟨b, 0, none⟩))] x by simp [rho, List.lookup, show a.eval (.tmp 30) = _ from g0]) (by kernel_rfl)) (Below.refl _ _) rfl
   | 29, ho =>
     have g0 : kd b (.ptr 3) (a.eval (.tmp 28)) z := he ⟨25, .data⟩ (by injection ho with ho; subst ho; simp) rfl _ _ rfl rfl
     have g1 : kd b (.ptr 4) (a.eval (.tmp 31)) z := he ⟨28, .data⟩ (by injection ho with ho; subst ho; simp) rfl _ _ rfl rfl
     injection ho with ho; subst ho
     exact y_ok (v := .slice (some ⟨z.heap.size, 0, none⟩) 2 2) (w' := z.alloc (.cells #[.pointer (some ⟨b, 3, none⟩), .pointer (some ⟨b, 4, none⟩)] 128)) (run_rho [(28, .pointer (some ⟨b, 3, none⟩)), (31, .pointer (some ⟨b, 4, none⟩))] (fun _ _ e => by cases e) (show ∀ x ∈ (#[.tmp 28, .tmp 31] : Array Operand), a.eval x = rho [(28, .pointer (some ⟨b, 3, none⟩)), (31, .pointer (some ⟨b, 4, none⟩))] x by simp [rho, List.lookup, show a.eval (.tmp 28) = _ from g0, show a.eval (.tmp 31) = _ from g1]) (by kernel_rfl)) (box1 _ _) ⟨_, rfl, fun k i hk => (Blk.made z 128 [.pointer (some ⟨b, 3, none⟩), .pointer (some ⟨b, 4, none⟩)] rfl).c k _ (by
      match k, hk with
      | 0, hk => injection hk with hk; subst hk; rfl
      | 1, hk => injection hk with hk; subst hk; rfl), by omega⟩
   | 30, ho =>
     have g0 : kd b (.arr [3, 4]) (a.eval (.tmp 32)) z := he ⟨29, .data⟩ (by injection ho with ho; subst ho; simp) rfl _ _ rfl rfl
     injection ho with ho; subst ho
     obtain ⟨q, e0, hq, hn⟩ := g0
     change a.eval (.tmp 32) = .slice (some ⟨q, 0, none⟩) 2 2 at e0
     refine y_call (f := 73) (args := #[.slice (some ⟨q, 0, none⟩) 2 2]) (run_rho [(32, .slice (some ⟨q, 0, none⟩) 2 2)] (fun _ _ e => by cases e) (show ∀ x ∈ (#[.func 73, .tmp 32] : Array Operand), a.eval x = rho [(32, .slice (some ⟨q, 0, none⟩) 2 2)] x by simp [rho, List.lookup, e0, Act.eval_func]) (by kernel_rfl)) ((mnum_any _ _ _ _).mono ?_)
     rintro e z2 ⟨p, rfl, hp, hc, hb2⟩
     exact ⟨_, rfl, hb2, p, rfl, q, 2, hc, fun k i hk => (hb2.cell (p := ⟨q, k, none⟩) (block_lt_of_cell (hq k i hk))).trans (hq k i hk), hn, by omega⟩
   | 31, ho =>
     have g0 : kd b (.fn .kn) (a.eval (.tmp 33)) z := he ⟨30, .data⟩ (by injection ho with ho; subst ho; simp) rfl _ _ rfl rfl
     injection ho with ho; subst ho
     obtain ⟨p, e0, h⟩ := g0
     exact y_ok (v := .agg #[.string (tx kCode), .func (.func (tfn .kn)) #[] #[.pointer (some ⟨p, 0, none⟩)]]) (run_rho [(33, .func (.func (tfn .kn)) #[] #[.pointer (some ⟨p, 0, none⟩)])] (fun _ _ e => by cases e) (show ∀ x ∈ (#[.const (.string ⟨#[99, 111, 100, 101]⟩), .tmp 33] : Array Operand), a.eval x = rho [(33, .func (.func (tfn .kn)) #[] #[.pointer (some ⟨p, 0, none⟩)])] x by simp [rho, List.lookup, e0, Act.eval_const]) (by kernel_rfl)) (Below.refl _ _) ⟨p, rfl, h⟩
   | 32, ho =>
     have g0 : kd b (.ln .kn kCode) (a.eval (.tmp 34)) z := he ⟨31, .data⟩ (by injection ho with ho; subst ho; simp) rfl _ _ rfl rfl
     injection ho with ho; subst ho
     obtain ⟨p0, e0, h0⟩ := g0
     exact y_ok (v := .slice (some ⟨z.heap.size, 0, none⟩) 1 1) (w' := z.alloc (.cells #[.string (tx kCode), .func (.func (tfn .kn)) #[] #[.pointer (some ⟨p0, 0, none⟩)]] 126)) (run_rho [(34, .agg #[.string (tx kCode), .func (.func (tfn .kn)) #[] #[.pointer (some ⟨p0, 0, none⟩)]])] (fun _ _ e => by cases e) (show ∀ x ∈ (#[.tmp 34] : Array Operand), a.eval x = rho [(34, .agg #[.string (tx kCode), .func (.func (tfn .kn)) #[] #[.pointer (some ⟨p0, 0, none⟩)]])] x by simp [rho, List.lookup, e0]) (by kernel_rfl)) (box1 _ _) ⟨_, rfl, slm1 (Blk.made z 126 [.string (tx kCode), .func (.func (tfn .kn)) #[] #[.pointer (some ⟨p0, 0, none⟩)]] rfl) (h0.tur (Below.tur (box1 _ _))), by omega⟩
   | 33, ho =>
     have g0 : kd b (.lns [(kCode, .kn)]) (a.eval (.tmp 35)) z := he ⟨32, .data⟩ (by injection ho with ho; subst ho; simp) rfl _ _ rfl rfl
     injection ho with ho; subst ho
     obtain ⟨L, e0, h⟩ := g0
     change a.eval (.tmp 35) = .slice (some ⟨L, 0, none⟩) 1 1 at e0
     exact y_ok (v := .agg #[.slice (some ⟨L, 0, none⟩) 1 1, .bool false]) (run_rho [(35, .slice (some ⟨L, 0, none⟩) 1 1)] (fun _ _ e => by cases e) (show ∀ x ∈ (#[.tmp 35] : Array Operand), a.eval x = rho [(35, .slice (some ⟨L, 0, none⟩) 1 1)] x by simp [rho, List.lookup, e0]) (by kernel_rfl)) (Below.refl _ _) ⟨L, rfl, h⟩
   | 34, ho =>
     injection ho with ho; subst ho
     exact y_ok (v := .pointer (some ⟨b, 0, none⟩)) (run_rho [(0, .pointer (some ⟨b, 0, none⟩))] (fun _ _ e => by cases e) (show ∀ x ∈ (#[.tmp 0] : Array Operand), a.eval x = rho [(0, .pointer (some ⟨b, 0, none⟩))] x by simp [rho, List.lookup, h0]) (by kernel_rfl)) (Below.refl _ _) rfl
   | 35, ho =>
     have g0 : kd b (.ptr 0) (a.eval (.tmp 37)) z := he ⟨34, .data⟩ (by injection ho with ho; subst ho; simp) rfl _ _ rfl rfl
     injection ho with ho; subst ho
     exact y_ok (v := .pointer (some ⟨b, 0, none⟩)) (run_rho [(37, .pointer (some ⟨b, 0, none⟩))] (fun _ _ e => by cases e) (show ∀ x ∈ (#[.tmp 37] : Array Operand), a.eval x = rho [(37, .pointer (some ⟨b, 0, none⟩))] x by simp [rho, List.lookup, show a.eval (.tmp 37) = _ from g0]) (by kernel_rfl)) (Below.refl _ _) rfl
   | 36, ho =>
     have g0 : kd b (.ptr 0) (a.eval (.tmp 38)) z := he ⟨35, .data⟩ (by injection ho with ho; subst ho; simp) rfl _ _ rfl rfl
     injection ho with ho; subst ho
     exact y_ok (v := .pointer (some ⟨b, 5, none⟩)) (run_rho [(38, .pointer (some ⟨b, 0, none⟩))] (fun _ _ e => by cases e) (show ∀ x ∈ (#[.tmp 38] : Array Operand), a.eval x = rho [(38, .pointer (some ⟨b, 0, none⟩))] x by simp [rho, List.lookup, show a.eval (.tmp 38) = _ from g0]) (by kernel_rfl)) (Below.refl _ _) rfl
   | 37, ho =>
     have g0 : kd b (.ptr 5) (a.eval (.tmp 39)) z := he ⟨36, .data⟩ (by injection ho with ho; subst ho; simp) rfl _ _ rfl rfl
     injection ho with ho; subst ho
     exact y_ok (v := .slice (some ⟨z.heap.size, 0, none⟩) 1 1) (w' := z.alloc (.cells #[.pointer (some ⟨b, 5, none⟩)] 128)) (run_rho [(39, .pointer (some ⟨b, 5, none⟩))] (fun _ _ e => by cases e) (show ∀ x ∈ (#[.tmp 39] : Array Operand), a.eval x = rho [(39, .pointer (some ⟨b, 5, none⟩))] x by simp [rho, List.lookup, show a.eval (.tmp 39) = _ from g0]) (by kernel_rfl)) (box1 _ _) ⟨_, rfl, fun k i hk => (Blk.made z 128 [.pointer (some ⟨b, 5, none⟩)] rfl).c k _ (by
      match k, hk with
      | 0, hk => injection hk with hk; subst hk; rfl), by omega⟩
   | 38, ho =>
     have g0 : kd b (.arr [5]) (a.eval (.tmp 40)) z := he ⟨37, .data⟩ (by injection ho with ho; subst ho; simp) rfl _ _ rfl rfl
     injection ho with ho; subst ho
     obtain ⟨q, e0, hq, hn⟩ := g0
     change a.eval (.tmp 40) = .slice (some ⟨q, 0, none⟩) 1 1 at e0
     refine y_call (f := 73) (args := #[.slice (some ⟨q, 0, none⟩) 1 1]) (run_rho [(40, .slice (some ⟨q, 0, none⟩) 1 1)] (fun _ _ e => by cases e) (show ∀ x ∈ (#[.func 73, .tmp 40] : Array Operand), a.eval x = rho [(40, .slice (some ⟨q, 0, none⟩) 1 1)] x by simp [rho, List.lookup, e0, Act.eval_func]) (by kernel_rfl)) ((mnum_any _ _ _ _).mono ?_)
     rintro e z2 ⟨p, rfl, hp, hc, hb2⟩
     exact ⟨_, rfl, hb2, p, rfl, q, 1, hc, fun k i hk => (hb2.cell (p := ⟨q, k, none⟩) (block_lt_of_cell (hq k i hk))).trans (hq k i hk), hn, by omega⟩
   | 39, ho =>
     have g0 : kd b (.fn .f) (a.eval (.tmp 41)) z := he ⟨38, .data⟩ (by injection ho with ho; subst ho; simp) rfl _ _ rfl rfl
     injection ho with ho; subst ho
     obtain ⟨p, e0, h⟩ := g0
     exact y_ok (v := .agg #[.string (tx kFuel), .func (.func (tfn .f)) #[] #[.pointer (some ⟨p, 0, none⟩)]]) (run_rho [(41, .func (.func (tfn .f)) #[] #[.pointer (some ⟨p, 0, none⟩)])] (fun _ _ e => by cases e) (show ∀ x ∈ (#[.const (.string ⟨#[102, 117, 101, 108]⟩), .tmp 41] : Array Operand), a.eval x = rho [(41, .func (.func (tfn .f)) #[] #[.pointer (some ⟨p, 0, none⟩)])] x by simp [rho, List.lookup, e0, Act.eval_const]) (by kernel_rfl)) (Below.refl _ _) ⟨p, rfl, h⟩
   | 40, ho =>
     have g0 : kd b (.ln .f kFuel) (a.eval (.tmp 42)) z := he ⟨39, .data⟩ (by injection ho with ho; subst ho; simp) rfl _ _ rfl rfl
     injection ho with ho; subst ho
     obtain ⟨p0, e0, h0⟩ := g0
     exact y_ok (v := .slice (some ⟨z.heap.size, 0, none⟩) 1 1) (w' := z.alloc (.cells #[.string (tx kFuel), .func (.func (tfn .f)) #[] #[.pointer (some ⟨p0, 0, none⟩)]] 126)) (run_rho [(42, .agg #[.string (tx kFuel), .func (.func (tfn .f)) #[] #[.pointer (some ⟨p0, 0, none⟩)]])] (fun _ _ e => by cases e) (show ∀ x ∈ (#[.tmp 42] : Array Operand), a.eval x = rho [(42, .agg #[.string (tx kFuel), .func (.func (tfn .f)) #[] #[.pointer (some ⟨p0, 0, none⟩)]])] x by simp [rho, List.lookup, e0]) (by kernel_rfl)) (box1 _ _) ⟨_, rfl, slm1 (Blk.made z 126 [.string (tx kFuel), .func (.func (tfn .f)) #[] #[.pointer (some ⟨p0, 0, none⟩)]] rfl) (h0.tur (Below.tur (box1 _ _))), by omega⟩
   | 41, ho =>
     have g0 : kd b (.lns [(kFuel, .f)]) (a.eval (.tmp 43)) z := he ⟨40, .data⟩ (by injection ho with ho; subst ho; simp) rfl _ _ rfl rfl
     injection ho with ho; subst ho
     obtain ⟨L, e0, h⟩ := g0
     change a.eval (.tmp 43) = .slice (some ⟨L, 0, none⟩) 1 1 at e0
     exact y_ok (v := .agg #[.slice (some ⟨L, 0, none⟩) 1 1, .bool false]) (run_rho [(43, .slice (some ⟨L, 0, none⟩) 1 1)] (fun _ _ e => by cases e) (show ∀ x ∈ (#[.tmp 43] : Array Operand), a.eval x = rho [(43, .slice (some ⟨L, 0, none⟩) 1 1)] x by simp [rho, List.lookup, e0]) (by kernel_rfl)) (Below.refl _ _) ⟨L, rfl, h⟩
   | 42, ho =>
     injection ho with ho; subst ho
     exact y_ok (v := .pointer (some ⟨b, 0, none⟩)) (run_rho [(0, .pointer (some ⟨b, 0, none⟩))] (fun _ _ e => by cases e) (show ∀ x ∈ (#[.tmp 0] : Array Operand), a.eval x = rho [(0, .pointer (some ⟨b, 0, none⟩))] x by simp [rho, List.lookup, h0]) (by kernel_rfl)) (Below.refl _ _) rfl
   | 43, ho =>
     have g0 : kd b (.ptr 0) (a.eval (.tmp 45)) z := he ⟨42, .data⟩ (by injection ho with ho; subst ho; simp) rfl _ _ rfl rfl
     injection ho with ho; subst ho
     exact y_ok (v := .pointer (some ⟨b, 0, none⟩)) (run_rho [(45, .pointer (some ⟨b, 0, none⟩))] (fun _ _ e => by cases e) (show ∀ x ∈ (#[.tmp 45] : Array Operand), a.eval x = rho [(45, .pointer (some ⟨b, 0, none⟩))] x by simp [rho, List.lookup, show a.eval (.tmp 45) = _ from g0]) (by kernel_rfl)) (Below.refl _ _) rfl
   | 44, ho =>
     have g0 : kd b (.ptr 0) (a.eval (.tmp 46)) z := he ⟨43, .data⟩ (by injection ho with ho; subst ho; simp) rfl _ _ rfl rfl
     injection ho with ho; subst ho
     exact y_ok (v := .pointer (some ⟨b, 6, none⟩)) (run_rho [(46, .pointer (some ⟨b, 0, none⟩))] (fun _ _ e => by cases e) (show ∀ x ∈ (#[.tmp 46] : Array Operand), a.eval x = rho [(46, .pointer (some ⟨b, 0, none⟩))] x by simp [rho, List.lookup, show a.eval (.tmp 46) = _ from g0]) (by kernel_rfl)) (Below.refl _ _) rfl
   | 45, ho =>
     have g0 : kd b (.ptr 6) (a.eval (.tmp 47)) z := he ⟨44, .data⟩ (by injection ho with ho; subst ho; simp) rfl _ _ rfl rfl
     injection ho with ho; subst ho
     refine y_call (f := 74) (args := #[.pointer (some ⟨b, 6, none⟩)]) (run_rho [(47, .pointer (some ⟨b, 6, none⟩))] (fun _ _ e => by cases e) (show ∀ x ∈ (#[.func 74, .tmp 47] : Array Operand), a.eval x = rho [(47, .pointer (some ⟨b, 6, none⟩))] x by simp [rho, List.lookup, show a.eval (.tmp 47) = _ from g0, Act.eval_func]) (by kernel_rfl)) ((mexpr_any _ _).mono ?_)
     rintro e z2 ⟨p, rfl, hp, hc, hb2⟩
     exact ⟨_, rfl, hb2, p, rfl, hc, by omega⟩
   | 46, ho =>
     have g0 : kd b (.fn .m) (a.eval (.tmp 48)) z := he ⟨45, .data⟩ (by injection ho with ho; subst ho; simp) rfl _ _ rfl rfl
     injection ho with ho; subst ho
     obtain ⟨p, e0, h⟩ := g0
     exact y_ok (v := .agg #[.string (tx kMap), .func (.func (tfn .m)) #[] #[.pointer (some ⟨p, 0, none⟩)]]) (run_rho [(48, .func (.func (tfn .m)) #[] #[.pointer (some ⟨p, 0, none⟩)])] (fun _ _ e => by cases e) (show ∀ x ∈ (#[.const (.string ⟨#[109, 97, 112]⟩), .tmp 48] : Array Operand), a.eval x = rho [(48, .func (.func (tfn .m)) #[] #[.pointer (some ⟨p, 0, none⟩)])] x by simp [rho, List.lookup, e0, Act.eval_const]) (by kernel_rfl)) (Below.refl _ _) ⟨p, rfl, h⟩
   | 47, ho =>
     have g0 : kd b (.ln .m kMap) (a.eval (.tmp 49)) z := he ⟨46, .data⟩ (by injection ho with ho; subst ho; simp) rfl _ _ rfl rfl
     injection ho with ho; subst ho
     obtain ⟨p0, e0, h0⟩ := g0
     exact y_ok (v := .slice (some ⟨z.heap.size, 0, none⟩) 1 1) (w' := z.alloc (.cells #[.string (tx kMap), .func (.func (tfn .m)) #[] #[.pointer (some ⟨p0, 0, none⟩)]] 126)) (run_rho [(49, .agg #[.string (tx kMap), .func (.func (tfn .m)) #[] #[.pointer (some ⟨p0, 0, none⟩)]])] (fun _ _ e => by cases e) (show ∀ x ∈ (#[.tmp 49] : Array Operand), a.eval x = rho [(49, .agg #[.string (tx kMap), .func (.func (tfn .m)) #[] #[.pointer (some ⟨p0, 0, none⟩)]])] x by simp [rho, List.lookup, e0]) (by kernel_rfl)) (box1 _ _) ⟨_, rfl, slm1 (Blk.made z 126 [.string (tx kMap), .func (.func (tfn .m)) #[] #[.pointer (some ⟨p0, 0, none⟩)]] rfl) (h0.tur (Below.tur (box1 _ _))), by omega⟩
   | 48, ho =>
     have g0 : kd b (.lns [(kMap, .m)]) (a.eval (.tmp 50)) z := he ⟨47, .data⟩ (by injection ho with ho; subst ho; simp) rfl _ _ rfl rfl
     injection ho with ho; subst ho
     obtain ⟨L, e0, h⟩ := g0
     change a.eval (.tmp 50) = .slice (some ⟨L, 0, none⟩) 1 1 at e0
     exact y_ok (v := .agg #[.slice (some ⟨L, 0, none⟩) 1 1, .bool false]) (run_rho [(50, .slice (some ⟨L, 0, none⟩) 1 1)] (fun _ _ e => by cases e) (show ∀ x ∈ (#[.tmp 50] : Array Operand), a.eval x = rho [(50, .slice (some ⟨L, 0, none⟩) 1 1)] x by simp [rho, List.lookup, e0]) (by kernel_rfl)) (Below.refl _ _) ⟨L, rfl, h⟩
   | 49, ho =>
     injection ho with ho; subst ho
     exact y_ok (v := .pointer (some ⟨b, 0, none⟩)) (run_rho [(0, .pointer (some ⟨b, 0, none⟩))] (fun _ _ e => by cases e) (show ∀ x ∈ (#[.tmp 0] : Array Operand), a.eval x = rho [(0, .pointer (some ⟨b, 0, none⟩))] x by simp [rho, List.lookup, h0]) (by kernel_rfl)) (Below.refl _ _) rfl
   | 50, ho =>
     have g0 : kd b (.ptr 0) (a.eval (.tmp 52)) z := he ⟨49, .data⟩ (by injection ho with ho; subst ho; simp) rfl _ _ rfl rfl
     injection ho with ho; subst ho
     exact y_ok (v := .pointer (some ⟨b, 0, none⟩)) (run_rho [(52, .pointer (some ⟨b, 0, none⟩))] (fun _ _ e => by cases e) (show ∀ x ∈ (#[.tmp 52] : Array Operand), a.eval x = rho [(52, .pointer (some ⟨b, 0, none⟩))] x by simp [rho, List.lookup, show a.eval (.tmp 52) = _ from g0]) (by kernel_rfl)) (Below.refl _ _) rfl
   | 51, ho =>
     have g0 : kd b (.ptr 0) (a.eval (.tmp 53)) z := he ⟨50, .data⟩ (by injection ho with ho; subst ho; simp) rfl _ _ rfl rfl
     injection ho with ho; subst ho
     exact y_ok (v := .pointer (some ⟨b, 7, none⟩)) (run_rho [(53, .pointer (some ⟨b, 0, none⟩))] (fun _ _ e => by cases e) (show ∀ x ∈ (#[.tmp 53] : Array Operand), a.eval x = rho [(53, .pointer (some ⟨b, 0, none⟩))] x by simp [rho, List.lookup, show a.eval (.tmp 53) = _ from g0]) (by kernel_rfl)) (Below.refl _ _) rfl
   | 52, ho =>
     have g0 : kd b (.ptr 7) (a.eval (.tmp 54)) z := he ⟨51, .data⟩ (by injection ho with ho; subst ho; simp) rfl _ _ rfl rfl
     injection ho with ho; subst ho
     refine y_call (f := 74) (args := #[.pointer (some ⟨b, 7, none⟩)]) (run_rho [(54, .pointer (some ⟨b, 7, none⟩))] (fun _ _ e => by cases e) (show ∀ x ∈ (#[.func 74, .tmp 54] : Array Operand), a.eval x = rho [(54, .pointer (some ⟨b, 7, none⟩))] x by simp [rho, List.lookup, show a.eval (.tmp 54) = _ from g0, Act.eval_func]) (by kernel_rfl)) ((mexpr_any _ _).mono ?_)
     rintro e z2 ⟨p, rfl, hp, hc, hb2⟩
     exact ⟨_, rfl, hb2, p, rfl, hc, by omega⟩
   | 53, ho =>
     have g0 : kd b (.fn .b) (a.eval (.tmp 55)) z := he ⟨52, .data⟩ (by injection ho with ho; subst ho; simp) rfl _ _ rfl rfl
     injection ho with ho; subst ho
     obtain ⟨p, e0, h⟩ := g0
     exact y_ok (v := .agg #[.string (tx kBy), .func (.func (tfn .b)) #[] #[.pointer (some ⟨p, 0, none⟩)]]) (run_rho [(55, .func (.func (tfn .b)) #[] #[.pointer (some ⟨p, 0, none⟩)])] (fun _ _ e => by cases e) (show ∀ x ∈ (#[.const (.string ⟨#[98, 121]⟩), .tmp 55] : Array Operand), a.eval x = rho [(55, .func (.func (tfn .b)) #[] #[.pointer (some ⟨p, 0, none⟩)])] x by simp [rho, List.lookup, e0, Act.eval_const]) (by kernel_rfl)) (Below.refl _ _) ⟨p, rfl, h⟩
   | 54, ho =>
     have g0 : kd b (.ln .b kBy) (a.eval (.tmp 56)) z := he ⟨53, .data⟩ (by injection ho with ho; subst ho; simp) rfl _ _ rfl rfl
     injection ho with ho; subst ho
     obtain ⟨p0, e0, h0⟩ := g0
     exact y_ok (v := .slice (some ⟨z.heap.size, 0, none⟩) 1 1) (w' := z.alloc (.cells #[.string (tx kBy), .func (.func (tfn .b)) #[] #[.pointer (some ⟨p0, 0, none⟩)]] 126)) (run_rho [(56, .agg #[.string (tx kBy), .func (.func (tfn .b)) #[] #[.pointer (some ⟨p0, 0, none⟩)]])] (fun _ _ e => by cases e) (show ∀ x ∈ (#[.tmp 56] : Array Operand), a.eval x = rho [(56, .agg #[.string (tx kBy), .func (.func (tfn .b)) #[] #[.pointer (some ⟨p0, 0, none⟩)]])] x by simp [rho, List.lookup, e0]) (by kernel_rfl)) (box1 _ _) ⟨_, rfl, slm1 (Blk.made z 126 [.string (tx kBy), .func (.func (tfn .b)) #[] #[.pointer (some ⟨p0, 0, none⟩)]] rfl) (h0.tur (Below.tur (box1 _ _))), by omega⟩
   | 55, ho =>
     have g0 : kd b (.lns [(kBy, .b)]) (a.eval (.tmp 57)) z := he ⟨54, .data⟩ (by injection ho with ho; subst ho; simp) rfl _ _ rfl rfl
     injection ho with ho; subst ho
     obtain ⟨L, e0, h⟩ := g0
     change a.eval (.tmp 57) = .slice (some ⟨L, 0, none⟩) 1 1 at e0
     exact y_ok (v := .agg #[.slice (some ⟨L, 0, none⟩) 1 1, .bool true]) (run_rho [(57, .slice (some ⟨L, 0, none⟩) 1 1)] (fun _ _ e => by cases e) (show ∀ x ∈ (#[.tmp 57, .const (.bool true)] : Array Operand), a.eval x = rho [(57, .slice (some ⟨L, 0, none⟩) 1 1)] x by simp [rho, List.lookup, e0, Act.eval_const]) (by kernel_rfl)) (Below.refl _ _) ⟨L, rfl, h⟩
   | 56, ho =>
     injection ho with ho; subst ho
     exact y_ok (v := .pointer (some ⟨b, 0, none⟩)) (run_rho [(0, .pointer (some ⟨b, 0, none⟩))] (fun _ _ e => by cases e) (show ∀ x ∈ (#[.tmp 0] : Array Operand), a.eval x = rho [(0, .pointer (some ⟨b, 0, none⟩))] x by simp [rho, List.lookup, h0]) (by kernel_rfl)) (Below.refl _ _) rfl
   | 57, ho =>
     have g0 : kd b (.ptr 0) (a.eval (.tmp 59)) z := he ⟨56, .data⟩ (by injection ho with ho; subst ho; simp) rfl _ _ rfl rfl
     injection ho with ho; subst ho
     exact y_ok (v := .pointer (some ⟨b, 0, none⟩)) (run_rho [(59, .pointer (some ⟨b, 0, none⟩))] (fun _ _ e => by cases e) (show ∀ x ∈ (#[.tmp 59] : Array Operand), a.eval x = rho [(59, .pointer (some ⟨b, 0, none⟩))] x by simp [rho, List.lookup, show a.eval (.tmp 59) = _ from g0]) (by kernel_rfl)) (Below.refl _ _) rfl
   | 58, ho =>
     have g0 : kd b (.ptr 0) (a.eval (.tmp 60)) z := he ⟨57, .data⟩ (by injection ho with ho; subst ho; simp) rfl _ _ rfl rfl
     injection ho with ho; subst ho
     exact y_ok (v := .pointer (some ⟨b, 9, none⟩)) (run_rho [(60, .pointer (some ⟨b, 0, none⟩))] (fun _ _ e => by cases e) (show ∀ x ∈ (#[.tmp 60] : Array Operand), a.eval x = rho [(60, .pointer (some ⟨b, 0, none⟩))] x by simp [rho, List.lookup, show a.eval (.tmp 60) = _ from g0]) (by kernel_rfl)) (Below.refl _ _) rfl
   | 59, ho =>
     have g0 : kd b (.ptr 9) (a.eval (.tmp 61)) z := he ⟨58, .data⟩ (by injection ho with ho; subst ho; simp) rfl _ _ rfl rfl
     injection ho with ho; subst ho
     refine y_call (f := 72) (args := #[.pointer (some ⟨b, 9, none⟩)]) (run_rho [(61, .pointer (some ⟨b, 9, none⟩))] (fun _ _ e => by cases e) (show ∀ x ∈ (#[.func 72, .tmp 61] : Array Operand), a.eval x = rho [(61, .pointer (some ⟨b, 9, none⟩))] x by simp [rho, List.lookup, show a.eval (.tmp 61) = _ from g0, Act.eval_func]) (by kernel_rfl)) ((mword_any _ _).mono ?_)
     rintro e z2 ⟨p, rfl, hp, hc, hb2⟩
     exact ⟨_, rfl, hb2, p, rfl, hc, by omega⟩
   | 60, ho =>
     have g0 : kd b (.fn .fd) (a.eval (.tmp 62)) z := he ⟨59, .data⟩ (by injection ho with ho; subst ho; simp) rfl _ _ rfl rfl
     injection ho with ho; subst ho
     obtain ⟨p, e0, h⟩ := g0
     exact y_ok (v := .agg #[.string (tx kFold), .func (.func (tfn .fd)) #[] #[.pointer (some ⟨p, 0, none⟩)]]) (run_rho [(62, .func (.func (tfn .fd)) #[] #[.pointer (some ⟨p, 0, none⟩)])] (fun _ _ e => by cases e) (show ∀ x ∈ (#[.const (.string ⟨#[102, 111, 108, 100]⟩), .tmp 62] : Array Operand), a.eval x = rho [(62, .func (.func (tfn .fd)) #[] #[.pointer (some ⟨p, 0, none⟩)])] x by simp [rho, List.lookup, e0, Act.eval_const]) (by kernel_rfl)) (Below.refl _ _) ⟨p, rfl, h⟩
   | 61, ho =>
     injection ho with ho; subst ho
     exact y_ok (v := .pointer (some ⟨b, 0, none⟩)) (run_rho [(0, .pointer (some ⟨b, 0, none⟩))] (fun _ _ e => by cases e) (show ∀ x ∈ (#[.tmp 0] : Array Operand), a.eval x = rho [(0, .pointer (some ⟨b, 0, none⟩))] x by simp [rho, List.lookup, h0]) (by kernel_rfl)) (Below.refl _ _) rfl
   | 62, ho =>
     have g0 : kd b (.ptr 0) (a.eval (.tmp 64)) z := he ⟨61, .data⟩ (by injection ho with ho; subst ho; simp) rfl _ _ rfl rfl
     injection ho with ho; subst ho
     exact y_ok (v := .pointer (some ⟨b, 0, none⟩)) (run_rho [(64, .pointer (some ⟨b, 0, none⟩))] (fun _ _ e => by cases e) (show ∀ x ∈ (#[.tmp 64] : Array Operand), a.eval x = rho [(64, .pointer (some ⟨b, 0, none⟩))] x by simp [rho, List.lookup, show a.eval (.tmp 64) = _ from g0]) (by kernel_rfl)) (Below.refl _ _) rfl
   | 63, ho =>
     have g0 : kd b (.ptr 0) (a.eval (.tmp 65)) z := he ⟨62, .data⟩ (by injection ho with ho; subst ho; simp) rfl _ _ rfl rfl
     injection ho with ho; subst ho
     exact y_ok (v := .pointer (some ⟨b, 8, none⟩)) (run_rho [(65, .pointer (some ⟨b, 0, none⟩))] (fun _ _ e => by cases e) (show ∀ x ∈ (#[.tmp 65] : Array Operand), a.eval x = rho [(65, .pointer (some ⟨b, 0, none⟩))] x by simp [rho, List.lookup, show a.eval (.tmp 65) = _ from g0]) (by kernel_rfl)) (Below.refl _ _) rfl
   | 64, ho =>
     have g0 : kd b (.ptr 8) (a.eval (.tmp 66)) z := he ⟨63, .data⟩ (by injection ho with ho; subst ho; simp) rfl _ _ rfl rfl
     injection ho with ho; subst ho
     refine y_call (f := 74) (args := #[.pointer (some ⟨b, 8, none⟩)]) (run_rho [(66, .pointer (some ⟨b, 8, none⟩))] (fun _ _ e => by cases e) (show ∀ x ∈ (#[.func 74, .tmp 66] : Array Operand), a.eval x = rho [(66, .pointer (some ⟨b, 8, none⟩))] x by simp [rho, List.lookup, show a.eval (.tmp 66) = _ from g0, Act.eval_func]) (by kernel_rfl)) ((mexpr_any _ _).mono ?_)
     rintro e z2 ⟨p, rfl, hp, hc, hb2⟩
     exact ⟨_, rfl, hb2, p, rfl, hc, by omega⟩
   | 65, ho =>
     have g0 : kd b (.fn .r) (a.eval (.tmp 67)) z := he ⟨64, .data⟩ (by injection ho with ho; subst ho; simp) rfl _ _ rfl rfl
     injection ho with ho; subst ho
     obtain ⟨p, e0, h⟩ := g0
     exact y_ok (v := .agg #[.string (tx kReduce), .func (.func (tfn .r)) #[] #[.pointer (some ⟨p, 0, none⟩)]]) (run_rho [(67, .func (.func (tfn .r)) #[] #[.pointer (some ⟨p, 0, none⟩)])] (fun _ _ e => by cases e) (show ∀ x ∈ (#[.const (.string ⟨#[114, 101, 100, 117, 99, 101]⟩), .tmp 67] : Array Operand), a.eval x = rho [(67, .func (.func (tfn .r)) #[] #[.pointer (some ⟨p, 0, none⟩)])] x by simp [rho, List.lookup, e0, Act.eval_const]) (by kernel_rfl)) (Below.refl _ _) ⟨p, rfl, h⟩
   | 66, ho =>
     have g0 : kd b (.ln .fd kFold) (a.eval (.tmp 63)) z := he ⟨60, .data⟩ (by injection ho with ho; subst ho; simp) rfl _ _ rfl rfl
     have g1 : kd b (.ln .r kReduce) (a.eval (.tmp 68)) z := he ⟨65, .data⟩ (by injection ho with ho; subst ho; simp) rfl _ _ rfl rfl
     injection ho with ho; subst ho
     obtain ⟨p0, e0, h0⟩ := g0
     obtain ⟨p1, e1, h1⟩ := g1
     exact y_ok (v := .slice (some ⟨z.heap.size, 0, none⟩) 2 2) (w' := z.alloc (.cells #[.string (tx kFold), .func (.func (tfn .fd)) #[] #[.pointer (some ⟨p0, 0, none⟩)], .string (tx kReduce), .func (.func (tfn .r)) #[] #[.pointer (some ⟨p1, 0, none⟩)]] 126)) (run_rho [(63, .agg #[.string (tx kFold), .func (.func (tfn .fd)) #[] #[.pointer (some ⟨p0, 0, none⟩)]]), (68, .agg #[.string (tx kReduce), .func (.func (tfn .r)) #[] #[.pointer (some ⟨p1, 0, none⟩)]])] (fun _ _ e => by cases e) (show ∀ x ∈ (#[.tmp 63, .tmp 68] : Array Operand), a.eval x = rho [(63, .agg #[.string (tx kFold), .func (.func (tfn .fd)) #[] #[.pointer (some ⟨p0, 0, none⟩)]]), (68, .agg #[.string (tx kReduce), .func (.func (tfn .r)) #[] #[.pointer (some ⟨p1, 0, none⟩)]])] x by simp [rho, List.lookup, e0, e1]) (by kernel_rfl)) (box1 _ _) ⟨_, rfl, slm2 (Blk.made z 126 [.string (tx kFold), .func (.func (tfn .fd)) #[] #[.pointer (some ⟨p0, 0, none⟩)], .string (tx kReduce), .func (.func (tfn .r)) #[] #[.pointer (some ⟨p1, 0, none⟩)]] rfl) (h0.tur (Below.tur (box1 _ _))) (h1.tur (Below.tur (box1 _ _))), by omega⟩
   | 67, ho =>
     have g0 : kd b (.lns [(kFold, .fd), (kReduce, .r)]) (a.eval (.tmp 69)) z := he ⟨66, .data⟩ (by injection ho with ho; subst ho; simp) rfl _ _ rfl rfl
     injection ho with ho; subst ho
     obtain ⟨L, e0, h⟩ := g0
     change a.eval (.tmp 69) = .slice (some ⟨L, 0, none⟩) 2 2 at e0
     exact y_ok (v := .agg #[.slice (some ⟨L, 0, none⟩) 2 2, .bool false]) (run_rho [(69, .slice (some ⟨L, 0, none⟩) 2 2)] (fun _ _ e => by cases e) (show ∀ x ∈ (#[.tmp 69] : Array Operand), a.eval x = rho [(69, .slice (some ⟨L, 0, none⟩) 2 2)] x by simp [rho, List.lookup, e0]) (by kernel_rfl)) (Below.refl _ _) ⟨L, rfl, h⟩
   | 68, ho =>
     injection ho with ho; subst ho
     exact y_ok (v := .pointer (some ⟨b, 0, none⟩)) (run_rho [(0, .pointer (some ⟨b, 0, none⟩))] (fun _ _ e => by cases e) (show ∀ x ∈ (#[.tmp 0] : Array Operand), a.eval x = rho [(0, .pointer (some ⟨b, 0, none⟩))] x by simp [rho, List.lookup, h0]) (by kernel_rfl)) (Below.refl _ _) rfl
   | 69, ho =>
     have g0 : kd b (.ptr 0) (a.eval (.tmp 71)) z := he ⟨68, .data⟩ (by injection ho with ho; subst ho; simp) rfl _ _ rfl rfl
     injection ho with ho; subst ho
     exact y_ok (v := .pointer (some ⟨b, 0, none⟩)) (run_rho [(71, .pointer (some ⟨b, 0, none⟩))] (fun _ _ e => by cases e) (show ∀ x ∈ (#[.tmp 71] : Array Operand), a.eval x = rho [(71, .pointer (some ⟨b, 0, none⟩))] x by simp [rho, List.lookup, show a.eval (.tmp 71) = _ from g0]) (by kernel_rfl)) (Below.refl _ _) rfl
   | 70, ho =>
     have g0 : kd b (.ptr 0) (a.eval (.tmp 72)) z := he ⟨69, .data⟩ (by injection ho with ho; subst ho; simp) rfl _ _ rfl rfl
     injection ho with ho; subst ho
     exact y_ok (v := .pointer (some ⟨b, 10, none⟩)) (run_rho [(72, .pointer (some ⟨b, 0, none⟩))] (fun _ _ e => by cases e) (show ∀ x ∈ (#[.tmp 72] : Array Operand), a.eval x = rho [(72, .pointer (some ⟨b, 0, none⟩))] x by simp [rho, List.lookup, show a.eval (.tmp 72) = _ from g0]) (by kernel_rfl)) (Below.refl _ _) rfl
   | 71, ho =>
     have g0 : kd b (.ptr 10) (a.eval (.tmp 73)) z := he ⟨70, .data⟩ (by injection ho with ho; subst ho; simp) rfl _ _ rfl rfl
     injection ho with ho; subst ho
     refine y_call (f := 75) (args := #[.pointer (some ⟨b, 10, none⟩)]) (run_rho [(73, .pointer (some ⟨b, 10, none⟩))] (fun _ _ e => by cases e) (show ∀ x ∈ (#[.func 75, .tmp 73] : Array Operand), a.eval x = rho [(73, .pointer (some ⟨b, 10, none⟩))] x by simp [rho, List.lookup, show a.eval (.tmp 73) = _ from g0, Act.eval_func]) (by kernel_rfl)) ((mans_any _ _).mono ?_)
     rintro e z2 ⟨p, rfl, hp, hc, hb2⟩
     exact ⟨_, rfl, hb2, p, rfl, hc, by omega⟩
   | 72, ho =>
     have g0 : kd b (.fn .cb) (a.eval (.tmp 74)) z := he ⟨71, .data⟩ (by injection ho with ho; subst ho; simp) rfl _ _ rfl rfl
     injection ho with ho; subst ho
     obtain ⟨p, e0, h⟩ := g0
     exact y_ok (v := .agg #[.string (tx kComb), .func (.func (tfn .cb)) #[] #[.pointer (some ⟨p, 0, none⟩)]]) (run_rho [(74, .func (.func (tfn .cb)) #[] #[.pointer (some ⟨p, 0, none⟩)])] (fun _ _ e => by cases e) (show ∀ x ∈ (#[.const (.string ⟨#[99, 111, 109, 98, 105, 110, 101]⟩), .tmp 74] : Array Operand), a.eval x = rho [(74, .func (.func (tfn .cb)) #[] #[.pointer (some ⟨p, 0, none⟩)])] x by simp [rho, List.lookup, e0, Act.eval_const]) (by kernel_rfl)) (Below.refl _ _) ⟨p, rfl, h⟩
   | 73, ho =>
     have g0 : kd b (.ln .cb kComb) (a.eval (.tmp 75)) z := he ⟨72, .data⟩ (by injection ho with ho; subst ho; simp) rfl _ _ rfl rfl
     injection ho with ho; subst ho
     obtain ⟨p0, e0, h0⟩ := g0
     exact y_ok (v := .slice (some ⟨z.heap.size, 0, none⟩) 1 1) (w' := z.alloc (.cells #[.string (tx kComb), .func (.func (tfn .cb)) #[] #[.pointer (some ⟨p0, 0, none⟩)]] 126)) (run_rho [(75, .agg #[.string (tx kComb), .func (.func (tfn .cb)) #[] #[.pointer (some ⟨p0, 0, none⟩)]])] (fun _ _ e => by cases e) (show ∀ x ∈ (#[.tmp 75] : Array Operand), a.eval x = rho [(75, .agg #[.string (tx kComb), .func (.func (tfn .cb)) #[] #[.pointer (some ⟨p0, 0, none⟩)]])] x by simp [rho, List.lookup, e0]) (by kernel_rfl)) (box1 _ _) ⟨_, rfl, slm1 (Blk.made z 126 [.string (tx kComb), .func (.func (tfn .cb)) #[] #[.pointer (some ⟨p0, 0, none⟩)]] rfl) (h0.tur (Below.tur (box1 _ _))), by omega⟩
   | 74, ho =>
     have g0 : kd b (.lns [(kComb, .cb)]) (a.eval (.tmp 76)) z := he ⟨73, .data⟩ (by injection ho with ho; subst ho; simp) rfl _ _ rfl rfl
     injection ho with ho; subst ho
     obtain ⟨L, e0, h⟩ := g0
     change a.eval (.tmp 76) = .slice (some ⟨L, 0, none⟩) 1 1 at e0
     exact y_ok (v := .agg #[.slice (some ⟨L, 0, none⟩) 1 1, .bool false]) (run_rho [(76, .slice (some ⟨L, 0, none⟩) 1 1)] (fun _ _ e => by cases e) (show ∀ x ∈ (#[.tmp 76] : Array Operand), a.eval x = rho [(76, .slice (some ⟨L, 0, none⟩) 1 1)] x by simp [rho, List.lookup, e0]) (by kernel_rfl)) (Below.refl _ _) ⟨L, rfl, h⟩
   | 75, ho =>
     have g0 : kd b (.slot ([(kJob, .nm)], false)) (a.eval (.tmp 9)) z := he ⟨6, .data⟩ (by injection ho with ho; subst ho; simp) rfl _ _ rfl rfl
     have g1 : kd b (.slot ([(kTasks, .t)], false)) (a.eval (.tmp 17)) z := he ⟨14, .data⟩ (by injection ho with ho; subst ho; simp) rfl _ _ rfl rfl
     have g2 : kd b (.slot ([(kParts, .p)], false)) (a.eval (.tmp 25)) z := he ⟨22, .data⟩ (by injection ho with ho; subst ho; simp) rfl _ _ rfl rfl
     have g3 : kd b (.slot ([(kCode, .kn)], false)) (a.eval (.tmp 36)) z := he ⟨33, .data⟩ (by injection ho with ho; subst ho; simp) rfl _ _ rfl rfl
     have g4 : kd b (.slot ([(kFuel, .f)], false)) (a.eval (.tmp 44)) z := he ⟨41, .data⟩ (by injection ho with ho; subst ho; simp) rfl _ _ rfl rfl
     have g5 : kd b (.slot ([(kMap, .m)], false)) (a.eval (.tmp 51)) z := he ⟨48, .data⟩ (by injection ho with ho; subst ho; simp) rfl _ _ rfl rfl
     have g6 : kd b (.slot ([(kBy, .b)], true)) (a.eval (.tmp 58)) z := he ⟨55, .data⟩ (by injection ho with ho; subst ho; simp) rfl _ _ rfl rfl
     have g7 : kd b (.slot ([(kFold, .fd), (kReduce, .r)], false)) (a.eval (.tmp 70)) z := he ⟨67, .data⟩ (by injection ho with ho; subst ho; simp) rfl _ _ rfl rfl
     have g8 : kd b (.slot ([(kComb, .cb)], false)) (a.eval (.tmp 77)) z := he ⟨74, .data⟩ (by injection ho with ho; subst ho; simp) rfl _ _ rfl rfl
     injection ho with ho; subst ho
     obtain ⟨L0, e0, h0⟩ := g0
     change a.eval (.tmp 9) = .agg #[.slice (some ⟨L0, 0, none⟩) 1 1, .bool false] at e0
     obtain ⟨L1, e1, h1⟩ := g1
     change a.eval (.tmp 17) = .agg #[.slice (some ⟨L1, 0, none⟩) 1 1, .bool false] at e1
     obtain ⟨L2, e2, h2⟩ := g2
     change a.eval (.tmp 25) = .agg #[.slice (some ⟨L2, 0, none⟩) 1 1, .bool false] at e2
     obtain ⟨L3, e3, h3⟩ := g3
     change a.eval (.tmp 36) = .agg #[.slice (some ⟨L3, 0, none⟩) 1 1, .bool false] at e3
     obtain ⟨L4, e4, h4⟩ := g4
     change a.eval (.tmp 44) = .agg #[.slice (some ⟨L4, 0, none⟩) 1 1, .bool false] at e4
     obtain ⟨L5, e5, h5⟩ := g5
     change a.eval (.tmp 51) = .agg #[.slice (some ⟨L5, 0, none⟩) 1 1, .bool false] at e5
     obtain ⟨L6, e6, h6⟩ := g6
     change a.eval (.tmp 58) = .agg #[.slice (some ⟨L6, 0, none⟩) 1 1, .bool true] at e6
     obtain ⟨L7, e7, h7⟩ := g7
     change a.eval (.tmp 70) = .agg #[.slice (some ⟨L7, 0, none⟩) 2 2, .bool false] at e7
     obtain ⟨L8, e8, h8⟩ := g8
     change a.eval (.tmp 77) = .agg #[.slice (some ⟨L8, 0, none⟩) 1 1, .bool false] at e8
     have hq := Blk.made z 86 [.slice (some ⟨L0, 0, none⟩) 1 1, .bool false, .slice (some ⟨L1, 0, none⟩) 1 1, .bool false, .slice (some ⟨L2, 0, none⟩) 1 1, .bool false, .slice (some ⟨L3, 0, none⟩) 1 1, .bool false, .slice (some ⟨L4, 0, none⟩) 1 1, .bool false, .slice (some ⟨L5, 0, none⟩) 1 1, .bool false, .slice (some ⟨L6, 0, none⟩) 1 1, .bool true, .slice (some ⟨L7, 0, none⟩) 2 2, .bool false, .slice (some ⟨L8, 0, none⟩) 1 1, .bool false] rfl
     exact y_ok (v := .slice (some ⟨z.heap.size, 0, none⟩) 9 9) (w' := z.alloc (.cells #[.slice (some ⟨L0, 0, none⟩) 1 1, .bool false, .slice (some ⟨L1, 0, none⟩) 1 1, .bool false, .slice (some ⟨L2, 0, none⟩) 1 1, .bool false, .slice (some ⟨L3, 0, none⟩) 1 1, .bool false, .slice (some ⟨L4, 0, none⟩) 1 1, .bool false, .slice (some ⟨L5, 0, none⟩) 1 1, .bool false, .slice (some ⟨L6, 0, none⟩) 1 1, .bool true, .slice (some ⟨L7, 0, none⟩) 2 2, .bool false, .slice (some ⟨L8, 0, none⟩) 1 1, .bool false] 86)) (run_rho [(9, .agg #[.slice (some ⟨L0, 0, none⟩) 1 1, .bool false]), (17, .agg #[.slice (some ⟨L1, 0, none⟩) 1 1, .bool false]), (25, .agg #[.slice (some ⟨L2, 0, none⟩) 1 1, .bool false]), (36, .agg #[.slice (some ⟨L3, 0, none⟩) 1 1, .bool false]), (44, .agg #[.slice (some ⟨L4, 0, none⟩) 1 1, .bool false]), (51, .agg #[.slice (some ⟨L5, 0, none⟩) 1 1, .bool false]), (58, .agg #[.slice (some ⟨L6, 0, none⟩) 1 1, .bool true]), (70, .agg #[.slice (some ⟨L7, 0, none⟩) 2 2, .bool false]), (77, .agg #[.slice (some ⟨L8, 0, none⟩) 1 1, .bool false])] (fun _ _ e => by cases e) (show ∀ x ∈ (#[.tmp 9, .tmp 17, .tmp 25, .tmp 36, .tmp 44, .tmp 51, .tmp 58, .tmp 70, .tmp 77] : Array Operand), a.eval x = rho [(9, .agg #[.slice (some ⟨L0, 0, none⟩) 1 1, .bool false]), (17, .agg #[.slice (some ⟨L1, 0, none⟩) 1 1, .bool false]), (25, .agg #[.slice (some ⟨L2, 0, none⟩) 1 1, .bool false]), (36, .agg #[.slice (some ⟨L3, 0, none⟩) 1 1, .bool false]), (44, .agg #[.slice (some ⟨L4, 0, none⟩) 1 1, .bool false]), (51, .agg #[.slice (some ⟨L5, 0, none⟩) 1 1, .bool false]), (58, .agg #[.slice (some ⟨L6, 0, none⟩) 1 1, .bool true]), (70, .agg #[.slice (some ⟨L7, 0, none⟩) 2 2, .bool false]), (77, .agg #[.slice (some ⟨L8, 0, none⟩) 1 1, .bool false])] x by simp [rho, List.lookup, e0, e1, e2, e3, e4, e5, e6, e7, e8]) (by kernel_rfl)) (box1 _ _) ⟨_, rfl, fun k x e => (by
      match k, e with
      | 0, e => injection e with e; subst e; exact ⟨_, _, hq.c 0 _ rfl, hq.c 1 _ rfl, h0.1.tur (Below.tur (box1 _ _)) h0.2, h0.2⟩
      | 1, e => injection e with e; subst e; exact ⟨_, _, hq.c 2 _ rfl, hq.c 3 _ rfl, h1.1.tur (Below.tur (box1 _ _)) h1.2, h1.2⟩
      | 2, e => injection e with e; subst e; exact ⟨_, _, hq.c 4 _ rfl, hq.c 5 _ rfl, h2.1.tur (Below.tur (box1 _ _)) h2.2, h2.2⟩
      | 3, e => injection e with e; subst e; exact ⟨_, _, hq.c 6 _ rfl, hq.c 7 _ rfl, h3.1.tur (Below.tur (box1 _ _)) h3.2, h3.2⟩
      | 4, e => injection e with e; subst e; exact ⟨_, _, hq.c 8 _ rfl, hq.c 9 _ rfl, h4.1.tur (Below.tur (box1 _ _)) h4.2, h4.2⟩
      | 5, e => injection e with e; subst e; exact ⟨_, _, hq.c 10 _ rfl, hq.c 11 _ rfl, h5.1.tur (Below.tur (box1 _ _)) h5.2, h5.2⟩
      | 6, e => injection e with e; subst e; exact ⟨_, _, hq.c 12 _ rfl, hq.c 13 _ rfl, h6.1.tur (Below.tur (box1 _ _)) h6.2, h6.2⟩
      | 7, e => injection e with e; subst e; exact ⟨_, _, hq.c 14 _ rfl, hq.c 15 _ rfl, h7.1.tur (Below.tur (box1 _ _)) h7.2, h7.2⟩
      | 8, e => injection e with e; subst e; exact ⟨_, _, hq.c 16 _ rfl, hq.c 17 _ rfl, h8.1.tur (Below.tur (box1 _ _)) h8.2, h8.2⟩), by omega⟩
   | 76, ho =>
     have g0 : kd b (.all) (a.eval (.tmp 78)) z := he ⟨75, .data⟩ (by injection ho with ho; subst ho; simp) rfl _ _ rfl rfl
     injection ho with ho; subst ho
     obtain ⟨S, e0, h⟩ := g0
     exact y_ok (v := .slice (some ⟨S, 0, none⟩) 9 9) (run_rho [(78, .slice (some ⟨S, 0, none⟩) 9 9)] (fun _ _ e => by cases e) (show ∀ x ∈ (#[.tmp 78] : Array Operand), a.eval x = rho [(78, .slice (some ⟨S, 0, none⟩) 9 9)] x by simp [rho, List.lookup, e0]) (by kernel_rfl)) (Below.refl _ _) ⟨S, rfl, h⟩
   | n + 77, ho => simp at ho
 · intro a z hbz hdf hN hall
   have hl : kd b .all (a.eval (.tmp 2)) z := hall 76 _ 2 rfl rfl
   obtain ⟨S, e0, h, hn⟩ := hl
   rename_i Q' K hK
   refine hK _ _ ?_
   refine wp_ret ?_
   have hlt : 2 < a.tmps.size := by omega
   have e1 : a.tmps[2] = .slice (some ⟨S, 0, none⟩) 9 9 := by
    have e : a.tmps.getD 2 undef = .slice (some ⟨S, 0, none⟩) 9 9 := e0
    simpa [Array.getD, hlt] using e
   exact bodyPost_ret (v := .slice (some ⟨S, 0, none⟩) 9 9) (by simp [results, Tryz.results39, go_sem, hlt, e1]) hdf ⟨S, rfl, hbz, h, hn⟩
end Go.Proofs.YtimllihegnokeaaGreatDoor.Jo

/-
  A text of this claim: JoBackP.
-/
import Derived.Test.YtimllihegnokeaaGreatDoorQ7
namespace Go.Proofs.YtimllihegnokeaaGreatDoor.Jo
open Ov Va Ex Ev
theorem itoa_no {c : UInt8} (h1 : dg c = false) (h2 : c ≠ 45) (m : Int) : c ∉ Lib.itoa m := by
 have hd : ∀ n, c ∉ Lib.decDigits n := fun n h => by have := dec_all n c h; rw [h1] at this; cases this
 unfold Lib.itoa
 split
 · intro h
   rcases List.mem_cons.1 h with h | h
   · exact h2 h
   · exact hd _ h
 · exact hd _
theorem hx_no : ∀ n : Fin 16, hx n.val ≠ 10 := by decide +kernel
theorem e1_no (c : UInt8) : (10 : UInt8) ∉ e1 c := by
 unfold e1
 split
 · rename_i h
   have := of_decide_eq_true h
   intro e
   rw [List.mem_singleton] at e
   rw [← e] at this
   exact absurd this.1 (by decide)
 · have h1 := hx_no ⟨c.toNat / 16, by have := c.toNat_lt; omega⟩
   have h2 := hx_no ⟨c.toNat % 16, by omega⟩
   intro e
   simp only [List.mem_cons, List.not_mem_nil, or_false] at e
   rcases e with e | e | e
   · exact absurd e (by decide)
   · exact h1 e.symm
   · exact h2 e.symm
theorem esc_no (l : List UInt8) : (10 : UInt8) ∉ esc l := by
 unfold esc
 intro h
 obtain ⟨c, _, hc⟩ := List.mem_flatMap.1 h
 exact e1_no c hc
theorem wr_no (v : Va) : (10 : UInt8) ∉ wr v := by
 have hi : ∀ m : Int, (10 : UInt8) ∉ Lib.itoa m := itoa_no (by decide) (by decide)
 unfold wr
 split
 · simp; exact esc_no _
 split
 · simp; exact ⟨hi _, hi _⟩
 · exact hi _
theorem wdl_no : wdl.all (fun w => !w.contains 10) = true := by decide +kernel
theorem nml_no : nml.all (fun w => !w.contains 10) = true := by decide +kernel
theorem wd_no (o : Int) : (10 : UInt8) ∉ wd o := by
 unfold wd
 split
 · cases h : wdl[o.toNat]? with
   | none => simp
   | some w =>
     have := List.all_eq_true.1 wdl_no w (List.mem_of_getElem? h)
     simpa using this
 · simp
theorem nm_no (o : Int) : (10 : UInt8) ∉ nm o := by
 unfold nm
 split
 · cases h : nml[o.toNat]? with
   | none => simp
   | some w =>
     have := List.all_eq_true.1 nml_no w (List.mem_of_getElem? h)
     simpa using this
 · simp
theorem ts_no {f : List No → List UInt8} {g : List No → Option (List No)} (hf : ∀ l, (10 : UInt8) ∉ f l) : ∀ (k : Nat) (r : List No), (10 : UInt8) ∉ ts f g k r
 | 0, r => by simp [ts]
 | k + 1, r => by
   show (10 : UInt8) ∉ 32 :: (f r ++ (match g r with | some r' => ts f g k r' | none => []))
   cases h : g r with
   | none => simp; exact hf r
   | some r' => simp; exact ⟨hf r, ts_no hf k r'⟩
theorem wt_no : ∀ (d : Nat) (l : List No), (10 : UInt8) ∉ wt d l
 | 0, _ => by simp [wt]
 | d + 1, [] => by simp [wt]
 | d + 1, n :: r => by
   rw [wt_cons]
   split
   · exact wr_no _
   split
   · exact nm_no _
   · simp; exact ⟨wd_no _, ts_no (wt_no d) _ _⟩
theorem tn_itoa {m : Int} (h : -100000 ≤ m ∧ m ≤ 100000) : tn (Lib.itoa m) = some m := by
 unfold tn; rw [cutb_none (itoa_no (by decide) (by decide) m)]; simp only; rw [dcm_itoa, cl5_of h]
theorem tn2_itoa {a b : Int} (h : -100000 ≤ a ∧ a ≤ 100000) (k : -100000 ≤ b ∧ b ≤ 100000) : tn2 (Lib.itoa a ++ 32 :: Lib.itoa b) = some (a, b) := by
 unfold tn2
 rw [cutb_app _ _ (itoa_no (by decide) (by decide) a)]
 simp only
 rw [cutb_none (itoa_no (by decide) (by decide) b)]
 simp only
 rw [dcm_itoa, cl5_of h, dcm_itoa, cl5_of k]
theorem te_wt {l : List No} (h : Rt l = true) (hb : ¬ 4096 < (wt 25 l).length) : te (wt 25 l) = some l := by
 unfold te
 rw [ps_wt h (by omega), if_pos ⟨rfl, by show wq l = _; unfold wq; rw [if_pos h, if_neg hb]⟩]
theorem ty_cb (q : Bool) : ty (if q then yesL else noL) = some q := by cases q <;> rfl
theorem cb_no (q : Bool) : (10 : UInt8) ∉ (if q then yesL else noL) := by cases q <;> decide
theorem tw1_of {s : List UInt8} (h : s ≠ []) (hb : (32 : UInt8) ∉ s) : tw1 s = some s := by
 unfold tw1; rw [if_neg]
 rintro (e | e)
 · exact h e
 · exact hb e
theorem tk_nm {s : List UInt8} {x : List UInt8} (h : tw1 s = some x) (j : Jb) : tk .nm s j = some { j with nm := x } := by
 show (tw1 s).map (fun x => ({ j with nm := x } : Jb)) = _
 rw [h]; rfl
theorem tk_fd {s : List UInt8} {x : List UInt8} (h : tw1 s = some x) (j : Jb) : tk .fd s j = some { j with fd := x } := by
 show (tw1 s).map (fun x => ({ j with fd := x } : Jb)) = _
 rw [h]; rfl
theorem tk_t {s : List UInt8} {x : Int} (h : tn s = some x) (j : Jb) : tk .t s j = some { j with t := x } := by
 show (tn s).map (fun x => ({ j with t := x } : Jb)) = _
 rw [h]; rfl
theorem tk_p {s : List UInt8} {x : Int} (h : tn s = some x) (j : Jb) : tk .p s j = some { j with p := x } := by
 show (tn s).map (fun x => ({ j with p := x } : Jb)) = _
 rw [h]; rfl
theorem tk_f {s : List UInt8} {x : Int} (h : tn s = some x) (j : Jb) : tk .f s j = some { j with f := x } := by
 show (tn s).map (fun x => ({ j with f := x } : Jb)) = _
 rw [h]; rfl
theorem tk_m {s : List UInt8} {x : List No} (h : te s = some x) (j : Jb) : tk .m s j = some { j with m := x } := by
 show (te s).map (fun x => ({ j with m := x } : Jb)) = _
 rw [h]; rfl
theorem tk_b {s : List UInt8} {x : List No} (h : te s = some x) (j : Jb) : tk .b s j = some { j with b := x } := by
 show (te s).map (fun x => ({ j with b := x } : Jb)) = _
 rw [h]; rfl
theorem tk_r {s : List UInt8} {x : List No} (h : te s = some x) (j : Jb) : tk .r s j = some { j with r := x } := by
 show (te s).map (fun x => ({ j with r := x } : Jb)) = _
 rw [h]; rfl
theorem tk_cb {s : List UInt8} {x : Bool} (h : ty s = some x) (j : Jb) : tk .cb s j = some { j with cb := x } := by
 show (ty s).map (fun x => ({ j with cb := x } : Jb)) = _
 rw [h]; rfl
theorem tk_kn {s : List UInt8} {x : Int × Int} (h : tn2 s = some x) (j : Jb) : tk .kn s j = some { j with k := x.1, n := x.2 } := by
 show (tn2 s).map (fun x => ({ j with k := x.1, n := x.2 } : Jb)) = _
 rw [h]; rfl
theorem pgo_step {x : Slt} {xs : List Slt} {w d s : List UInt8} {T : Tk} {j j' : Jb} {a : Nat} (hw : (32 : UInt8) ∉ w ∧ (10 : UInt8) ∉ w) (hd : (10 : UInt8) ∉ d) (hf : x.1.find? (fun l => l.1 == w) = some (w, T)) (ht : tk T d j = some j') :
 ∃ a', pgo (x :: xs) (ln w d ++ s) a j = pgo xs s a' j' := by
 refine ⟨a + (ln w d).length, ?_⟩
 have h := cs_line (r := s) hw.1 hw.2 hd hf ht
 show (if (cs x (ln w d ++ s) j).2.1 ≠ 0 then _ else pgo xs ((ln w d ++ s).drop (cs x (ln w d ++ s) j).1) (a + (cs x (ln w d ++ s) j).1) (cs x (ln w d ++ s) j).2.2) = _
 rw [h, if_neg (by simp), List.drop_left]
theorem pgo_pass {x : Slt} {xs : List Slt} {w d s : List UInt8} {j : Jb} {a : Nat} (hw : (32 : UInt8) ∉ w ∧ (10 : UInt8) ∉ w) (hd : (10 : UInt8) ∉ d) (hf : x.1.find? (fun l => l.1 == w) = none) (hb : x.2 = true) :
 ∃ a', pgo (x :: xs) (ln w d ++ s) a j = pgo xs (ln w d ++ s) a' j := by
 refine ⟨a, ?_⟩
 have h := cs_bare (r := s) (j := j) hw.1 hw.2 hd hf hb
 show (if (cs x (ln w d ++ s) j).2.1 ≠ 0 then _ else pgo xs ((ln w d ++ s).drop (cs x (ln w d ++ s) j).1) (a + (cs x (ln w d ++ s) j).1) (cs x (ln w d ++ s) j).2.2) = _
 rw [h, if_neg (by simp)]; rfl
theorem nm_bytes {s : List UInt8} (h : nmOk s = true) : s ≠ [] ∧ (32 : UInt8) ∉ s ∧ (10 : UInt8) ∉ s := by
 unfold nmOk at h
 simp only [Bool.and_eq_true] at h
 obtain ⟨h1, h2, _⟩ := h
 refine ⟨fun e => (by rw [e] at h2; cases h2), fun e => ?_, fun e => ?_⟩
 · exact absurd (List.all_eq_true.1 h1 _ e) (by decide)
 · exact absurd (List.all_eq_true.1 h1 _ e) (by decide)
theorem fd_bytes {s : List UInt8} (h : isF s = true) : s ≠ [] ∧ (32 : UInt8) ∉ s ∧ (10 : UInt8) ∉ s := by
 rcases of_decide_eq_true h with h | h | h | h <;> rw [h] <;> decide
theorem jwq_zero {j : Jb} {t : List UInt8} (h : jwq j = (t, 0)) : jr j = 0 ∧ lg j = false ∧ t = f9 j := by
 have h0 : jr j = 0 := by
  cases hz : decide (jr j = 0) with
  | true => exact of_decide_eq_true hz
  | false =>
    have hne := of_decide_eq_false hz
    have e : jwq j = ([], jr j) := if_pos hne
    rw [e] at h
    exact absurd (congrArg Prod.snd h) hne
 rw [jwq_full h0] at h
 split at h
 · injection h with _ h; cases h
 · rename_i hl
   injection h with h _
   exact ⟨h0, by simpa using hl, h.symm⟩
theorem pj_back {j : Jb} {t : List UInt8} (h : jwq j = (t, 0)) : pj t = (j, 0, 0) := by
 obtain ⟨h0, hl, rfl⟩ := jwq_zero h
 obtain ⟨z1, z2, z3, z4, z5⟩ := jr_zero h0
 have hn := numOk_in z2
 rw [Bool.and_eq_true] at z3
 obtain ⟨z3, z6⟩ := z3
 unfold exOk at z3
 simp only [Bool.and_eq_true, Bool.or_eq_true] at z3
 obtain ⟨⟨hm, hb⟩, hr⟩ := z3
 unfold lg at hl
 simp only [Bool.or_eq_false_iff, Bool.and_eq_false_iff, Bool.not_eq_false'] at hl
 obtain ⟨⟨⟨lm, lb⟩, lr⟩, l9⟩ := hl
 have lm := of_decide_eq_false lm
 have l9 := of_decide_eq_false l9
 obtain ⟨n1, n2, n3⟩ := nm_bytes z1
 unfold pj
 rw [if_neg l9]
 have e5 : f9 j = ln kJob j.nm ++ (ln kTasks (Lib.itoa j.t) ++ (ln kParts (Lib.itoa j.p) ++ (ln kCode (Lib.itoa j.k ++ 32 :: Lib.itoa j.n) ++ (ln kFuel (Lib.itoa j.f) ++ (ln kMap (wt 25 j.m) ++ ((if j.b.length = 0 then [] else ln kBy (wt 25 j.b)) ++ ((if j.fd.isEmpty = true then ln kReduce (wt 25 j.r) else ln kFold j.fd) ++ (ln kComb (if j.cb then yesL else noL) ++ [])))))))) := by
  unfold f9 f8 f7 f6 w5 w4 w3 w2 w1
  split <;> split <;> simp [kJob, kTasks, kParts, kCode, kFuel, kMap, kBy, kFold, kReduce, kComb]
 rw [e5]
 unfold sls
 obtain ⟨a1, g1⟩ := pgo_step (x := ([(kJob, .nm)], false)) (xs := _) (w := kJob) (d := j.nm) (s := _) (T := .nm) (j := j0) (a := 0) (by decide) n3 rfl (tk_nm (tw1_of n1 n2) j0)
 rw [g1]; clear g1
 obtain ⟨a2, g1⟩ := pgo_step (x := ([(kTasks, .t)], false)) (w := kTasks) (d := Lib.itoa j.t) (T := .t) (a := a1) (by decide) (itoa_no (by decide) (by decide) _) rfl (tk_t (tn_itoa (by omega)) _)
 rw [g1]; clear g1
 obtain ⟨a3, g1⟩ := pgo_step (x := ([(kParts, .p)], false)) (w := kParts) (d := Lib.itoa j.p) (T := .p) (a := a2) (by decide) (itoa_no (by decide) (by decide) _) rfl (tk_p (tn_itoa (by omega)) _)
 rw [g1]; clear g1
 obtain ⟨a4, g1⟩ := pgo_step (x := ([(kCode, .kn)], false)) (w := kCode) (d := Lib.itoa j.k ++ 32 :: Lib.itoa j.n) (T := .kn) (a := a3) (by decide) (by simp; exact ⟨itoa_no (by decide) (by decide) _, itoa_no (by decide) (by decide) _⟩) rfl (tk_kn (tn2_itoa (by omega) (by omega)) _)
 rw [g1]; clear g1
 obtain ⟨a5, g1⟩ := pgo_step (x := ([(kFuel, .f)], false)) (w := kFuel) (d := Lib.itoa j.f) (T := .f) (a := a4) (by decide) (itoa_no (by decide) (by decide) _) rfl (tk_f (tn_itoa (by omega)) _)
 rw [g1]; clear g1
 obtain ⟨a6, g1⟩ := pgo_step (x := ([(kMap, .m)], false)) (w := kMap) (d := wt 25 j.m) (T := .m) (a := a5) (by decide) (wt_no _ _) rfl (tk_m (te_wt hm lm) _)
 rw [g1]; clear g1
 have fin : ∀ (a : Nat), pgo [([(kFold, Tk.fd), (kReduce, Tk.r)], false), ([(kComb, Tk.cb)], false)] ((if j.fd.isEmpty = true then ln kReduce (wt 25 j.r) else ln kFold j.fd) ++ (ln kComb (if j.cb then yesL else noL) ++ [])) a ⟨j.nm, j.t, j.p, j.k, j.n, j.f, j.m, j.b, [], [], false⟩ = (j, 0, 0) := fun a => by
  have last : ∀ (a : Nat) (k : Jb), tk .cb (if j.cb then yesL else noL) k = some j → pgo [([(kComb, Tk.cb)], false)] (ln kComb (if j.cb then yesL else noL) ++ []) a k = (j, 0, 0) := fun a k hk => by
   obtain ⟨a9, g1⟩ := pgo_step (x := ([(kComb, .cb)], false)) (xs := []) (w := kComb) (s := []) (T := .cb) (a := a) (by decide) (cb_no j.cb) rfl hk
   rw [g1]
   show (if ([] : List UInt8) ≠ [] then _ else if jr j ≠ 0 then _ else _) = _
   rw [if_neg (by simp), if_neg (by omega)]
  cases hfe : j.fd.isEmpty with
  | true =>
    rw [if_pos rfl]
    have hre : j.r.isEmpty = false := by
     cases hre : j.r.isEmpty with
     | false => rfl
     | true =>
       unfold fdOk at z6
       rw [hre, if_pos rfl, List.isEmpty_iff.1 hfe] at z6
       exact absurd z6 (by decide)
    have hr2 : Rt j.r = true := hr.resolve_left (by rw [hre]; decide)
    have lr2 := of_decide_eq_false (lr.resolve_left (by rw [hre]; decide))
    obtain ⟨a8, g1⟩ := pgo_step (x := ([(kFold, .fd), (kReduce, .r)], false)) (xs := [([(kComb, Tk.cb)], false)]) (w := kReduce) (d := wt 25 j.r) (s := ln kComb (if j.cb then yesL else noL) ++ []) (T := .r) (a := a) (by decide) (wt_no _ _) rfl (tk_r (te_wt hr2 lr2) ⟨j.nm, j.t, j.p, j.k, j.n, j.f, j.m, j.b, [], [], false⟩)
    rw [g1]
    refine last _ _ ?_
    rw [tk_cb (ty_cb j.cb)]
    show some (⟨j.nm, j.t, j.p, j.k, j.n, j.f, j.m, j.b, j.r, [], j.cb⟩ : Jb) = some j
    rw [← List.isEmpty_iff.1 hfe]
  | false =>
    rw [if_neg (by decide)]
    have hre : j.r.isEmpty = true := by
     cases hre : j.r.isEmpty with
     | true => rfl
     | false =>
       unfold fdOk at z6
       rw [hre, if_neg (by decide), hfe] at z6
       cases z6
    have hF : isF j.fd = true := by unfold fdOk at z6; rw [hre, if_pos rfl] at z6; exact z6
    obtain ⟨k1, k2, k3⟩ := fd_bytes hF
    obtain ⟨a8, g1⟩ := pgo_step (x := ([(kFold, .fd), (kReduce, .r)], false)) (xs := [([(kComb, Tk.cb)], false)]) (w := kFold) (d := j.fd) (s := ln kComb (if j.cb then yesL else noL) ++ []) (T := .fd) (a := a) (by decide) k3 rfl (tk_fd (tw1_of k1 k2) ⟨j.nm, j.t, j.p, j.k, j.n, j.f, j.m, j.b, [], [], false⟩)
    rw [g1]
    refine last _ _ ?_
    rw [tk_cb (ty_cb j.cb)]
    show some (⟨j.nm, j.t, j.p, j.k, j.n, j.f, j.m, j.b, [], j.fd, j.cb⟩ : Jb) = some j
    rw [← List.isEmpty_iff.1 hre]
 by_cases hb0 : j.b.length = 0
 · rw [if_pos hb0, List.nil_append]
   have hbn : j.b = [] := List.eq_nil_of_length_eq_zero hb0
   have e7 : ∃ a', pgo [([(kBy, Tk.b)], true), ([(kFold, Tk.fd), (kReduce, Tk.r)], false), ([(kComb, Tk.cb)], false)] ((if j.fd.isEmpty = true then ln kReduce (wt 25 j.r) else ln kFold j.fd) ++ (ln kComb (if j.cb then yesL else noL) ++ [])) a6 ⟨j.nm, j.t, j.p, j.k, j.n, j.f, j.m, [], [], [], false⟩ = pgo [([(kFold, Tk.fd), (kReduce, Tk.r)], false), ([(kComb, Tk.cb)], false)] ((if j.fd.isEmpty = true then ln kReduce (wt 25 j.r) else ln kFold j.fd) ++ (ln kComb (if j.cb then yesL else noL) ++ [])) a' ⟨j.nm, j.t, j.p, j.k, j.n, j.f, j.m, [], [], [], false⟩ := by
    cases hfe : j.fd.isEmpty with
    | true => rw [if_pos rfl]; exact pgo_pass (by decide) (wt_no _ _) rfl rfl
    | false =>
      rw [if_neg (by decide)]
      have hre : j.r.isEmpty = true := by
       cases hre : j.r.isEmpty with
       | true => rfl
       | false =>
         unfold fdOk at z6
         rw [hre, if_neg (by decide), hfe] at z6
         cases z6
      have hF : isF j.fd = true := by unfold fdOk at z6; rw [hre, if_pos rfl] at z6; exact z6
      exact pgo_pass (by decide) (fd_bytes hF).2.2 rfl rfl
   obtain ⟨a7, g7⟩ := e7
   have f7 := fin a7
   rw [hbn] at f7
   exact g7.trans f7
 · rw [if_neg hb0]
   have hbe : j.b.isEmpty = false := by rw [Bool.eq_false_iff]; intro e; exact hb0 (by rw [List.isEmpty_iff.1 e]; rfl)
   have hb2 : Rt j.b = true := hb.resolve_left (by rw [hbe]; decide)
   have lb2 := of_decide_eq_false (lb.resolve_left (by rw [hbe]; decide))
   obtain ⟨a7, g1⟩ := pgo_step (x := ([(kBy, .b)], true)) (xs := [([(kFold, Tk.fd), (kReduce, Tk.r)], false), ([(kComb, Tk.cb)], false)]) (w := kBy) (d := wt 25 j.b) (T := .b) (a := a6) (s := (if j.fd.isEmpty = true then ln kReduce (wt 25 j.r) else ln kFold j.fd) ++ (ln kComb (if j.cb then yesL else noL) ++ [])) (by decide) (wt_no _ _) rfl (tk_b (te_wt hb2 lb2) ⟨j.nm, j.t, j.p, j.k, j.n, j.f, j.m, [], [], [], false⟩)
   exact g1.trans (fin a7)
end Go.Proofs.YtimllihegnokeaaGreatDoor.Jo

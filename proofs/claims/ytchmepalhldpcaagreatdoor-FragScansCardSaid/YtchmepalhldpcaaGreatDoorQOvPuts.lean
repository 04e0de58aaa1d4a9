/-
  A text of this claim: OvPuts.
-/
import Derived.Test.YtchmepalhldpcaaGreatDoorQ2
import Derived.Laws.Tables
namespace Go.Proofs.YtchmepalhldpcaaGreatDoor.Ov
open Go.ChangeShapes Go.WideShapes Go.ChangeAt Go.RowKit
def putAll : List Oper → List Value → Act → Act
 | o :: l, v :: vs, a => putAll l vs (a.put o.dst v)
 | _, _, a => a
theorem put_size (a : Act) (d : Tmp) (v : Value) : (a.put (some d) v).tmps.size = a.tmps.size := by show (a.tmps.setIfInBounds d v).size = _; simp
theorem put_at (a : Act) {d : Tmp} (hd : d < a.tmps.size) (v : Value) (t : Tmp) : (a.put (some d) v).eval (.tmp t) = if t = d then v else a.eval (.tmp t) := by
 show (a.tmps.setIfInBounds d v).getD t undef = if t = d then v else a.tmps.getD t undef
 by_cases e : t = d
 · subst e; simp [hd]
 · rw [if_neg e]
   exact Act.eval_put (a := a) (dst := some d) (v := v) (x := .tmp t) fun d' hd' q => by injection hd' with hd'; injection q with q; exact e (q.trans hd'.symm)
theorem putAll_size : ∀ (l : List Oper) (vs : List Value) (a : Act), (∀ o ∈ l, ∃ d, o.dst = some d) → (putAll l vs a).tmps.size = a.tmps.size ∧ (putAll l vs a).defers = a.defers
 | [], vs, a, _ => by cases vs <;> exact ⟨rfl, rfl⟩
 | _ :: _, [], a, _ => ⟨rfl, rfl⟩
 | o :: l, v :: vs, a, h => by
   obtain ⟨d, hd⟩ := h o List.mem_cons_self
   have ih := putAll_size l vs (a.put o.dst v) fun o' h' => h o' (List.mem_cons_of_mem _ h')
   unfold putAll
   rw [hd] at ih ⊢
   exact ⟨ih.1.trans (put_size _ _ _), ih.2⟩
theorem putAll_at (A : Act) : ∀ (l : List Oper) (a : Act), (∀ o ∈ l, ∃ d, o.dst = some d ∧ d < a.tmps.size) → ∀ t, (putAll l (l.map fun o => A.eval (.tmp (o.dst.getD 0))) a).eval (.tmp t) = if ∃ o ∈ l, o.dst = some t then A.eval (.tmp t) else a.eval (.tmp t)
 | [], a, _, t => by rw [if_neg (by simp)]; rfl
 | o :: l, a, h, t => by
   obtain ⟨d, hd, hdl⟩ := h o List.mem_cons_self
   have ih := putAll_at A l (a.put o.dst (A.eval (.tmp (o.dst.getD 0)))) (fun o' h' => by
    obtain ⟨d', h1, h2⟩ := h o' (List.mem_cons_of_mem _ h')
    exact ⟨d', h1, by rw [hd, put_size]; exact h2⟩) t
   rw [List.map_cons]
   unfold putAll
   rw [ih]
   by_cases e1 : ∃ o' ∈ l, o'.dst = some t
   · rw [if_pos e1, if_pos (by obtain ⟨o', h1, h2⟩ := e1; exact ⟨o', List.mem_cons_of_mem _ h1, h2⟩)]
   · rw [if_neg e1, hd, put_at a hdl]
     by_cases e2 : t = d
     · subst e2
       rw [if_pos rfl, if_pos ⟨o, List.mem_cons_self, hd⟩]
       rfl
     · rw [if_neg e2, if_neg]
       rintro ⟨o', h1, h2⟩
       rcases List.mem_cons.1 h1 with rfl | h1
       · rw [hd] at h2; injection h2 with h2; exact e2 h2.symm
       · exact e1 ⟨o', h1, h2⟩
section
variable {P : Program} {ops : Array Oper} {Q : Exit → Act → World → Prop}
theorem listed_all (hlt : ∀ (i : Nat) (o : Oper), ops[i]? = some o → ∀ e ∈ o.after, e.on < i) {listed : Array Bool} (hsz : listed.size = ops.size) (hr : Region.ready .any ops listed = []) : ∀ i, i < ops.size → listed.getD i false = true := by
 intro i
 induction i using Nat.strongRecOn with
 | ind i ih =>
   intro hi
   cases h : listed.getD i true with
   | true => rw [← h]; simp [Array.getD, hsz, hi]
   | false =>
     have : i ∈ Region.ready .any ops listed := mem_ready.2 ⟨h, ops[i], Array.getElem?_eq_getElem hi, fun e he _ => by
      have hl := hlt i ops[i] (Array.getElem?_eq_getElem hi) e he
      exact ih e.on hl (by omega)⟩
     rw [hr] at this; cases this
theorem wpAny_all (J : Array Bool → Act → World → Prop) (hsz : ∀ listed a w, J listed a w → listed.size = ops.size) (hlt : ∀ (i : Nat) (o : Oper), ops[i]? = some o → ∀ e ∈ o.after, e.on < i)
 (hend : ∀ listed a w, J listed a w → (∀ i, i < ops.size → listed.getD i false = true) → Q .normal a w)
 (hstep : ∀ listed a w i o, J listed a w → listed.getD i true = false → ops[i]? = some o → (∀ e ∈ o.after, Region.binds .any e = true → listed.getD e.on false = true) → wpOp P ops Q i (J (listed.setIfInBounds i true)) a w) :
 ∀ (n : Nat) (listed : Array Bool) (a : Act) (w : World), J listed a w → listed.toList.count false ≤ n → wpAny P .any ops Q n listed a w
 | 0, listed, a, w, hJ, hn => by
   have hall : ∀ i, i < listed.size → listed.getD i true = true := fun i hi => by
    have h0 : listed.toList.count false = 0 := by omega
    rw [List.count_eq_zero] at h0
    have hm : listed[i] ∈ listed.toList := by simp
    cases h : listed[i] with
    | true => simp [Array.getD, hi, h]
    | false => rw [h] at hm; exact absurd hm h0
   have hr : Region.ready .any ops listed = [] := by
    cases h : Region.ready .any ops listed with
    | nil => rfl
    | cons x t =>
      have hx : x ∈ Region.ready .any ops listed := by rw [h]; exact List.mem_cons_self
      obtain ⟨h1, o, ho, _⟩ := mem_ready.1 hx
      have : x < ops.size := (Array.getElem?_eq_some_iff.1 ho).1
      rw [hall x (by rw [hsz _ _ _ hJ]; exact this)] at h1; cases h1
   exact ⟨hr, hend _ _ _ hJ (listed_all hlt (hsz _ _ _ hJ) hr)⟩
 | n + 1, listed, a, w, hJ, hn => by
   refine ⟨fun hr => hend _ _ _ hJ (listed_all hlt (hsz _ _ _ hJ) hr), fun i hi => ?_⟩
   obtain ⟨h1, o, ho, hall⟩ := mem_ready.1 hi
   have hio : i < ops.size := (Array.getElem?_eq_some_iff.1 ho).1
   have hil : i < listed.size := by rw [hsz _ _ _ hJ]; exact hio
   have hli : listed[i] = false := by simpa [Array.getD, hil] using h1
   refine wpOp_mono (fun a' w' hJ' => wpAny_all J hsz hlt hend hstep n _ a' w' hJ' ?_) (hstep listed a w i o hJ h1 ho hall)
   have hl2 : i < listed.toList.length := by simpa using hil
   have hp : 0 < listed.toList.count false := List.count_pos_iff.2 (by rw [← hli]; simp)
   have e1 : (listed.toList[i] == false) = true := by simp [hli]
   rw [Array.toList_setIfInBounds, List.count_set hl2, if_pos e1, if_neg (by decide)]
   omega
def putsB (ops : Array Oper) (N : Nat) : Bool :=
 (List.range ops.size).all fun i => match ops[i]? with
   | none => false
   | some o => o.guard.isNone && (match o.dst with | none => false | some d => decide (d < N) && (List.range ops.size).all fun j => j == i || ((ops[j]?).map (·.dst)) != some (some d)) && o.after.all fun e => decide (e.on < i)
theorem putsB_at {N : Nat} (h : putsB ops N = true) {i : Nat} {o : Oper} (ho : ops[i]? = some o) :
 o.guard = none ∧ (∃ d, o.dst = some d ∧ d < N ∧ ∀ (j : Nat) (o' : Oper), ops[j]? = some o' → j ≠ i → o'.dst ≠ some d) ∧ ∀ e ∈ o.after, e.on < i := by
 have hi : i < ops.size := (Array.getElem?_eq_some_iff.1 ho).1
 have h1 := List.all_eq_true.1 h i (List.mem_range.2 hi)
 rw [ho] at h1
 simp only [Bool.and_eq_true] at h1
 obtain ⟨⟨h2, h3⟩, h4⟩ := h1
 refine ⟨by simpa using h2, ?_, fun e he => of_decide_eq_true (Array.all_eq_true_iff_forall_mem.1 h4 e he)⟩
 cases hd : o.dst with
 | none => rw [hd] at h3; cases h3
 | some d =>
   rw [hd] at h3
   simp only [Bool.and_eq_true, decide_eq_true_eq] at h3
   obtain ⟨g2, g3⟩ := h3
   refine ⟨d, rfl, g2, fun j o' hj hne e => ?_⟩
   have := List.all_eq_true.1 g3 j (List.mem_range.2 (Array.getElem?_eq_some_iff.1 hj).1)
   rw [hj] at this
   simp [hne, e] at this
def inB (ops : Array Oper) (i t : Nat) : Bool :=
 (List.range ops.size).all fun j => match ops[j]? with
   | none => true
   | some o => o.dst != some t || j == i || o.after.toList.any fun e => e.on == i && Region.binds .any e
structure PutsJ (sp : Nat → Value → World → Prop) (ops : Array Oper) (a0 : Act) (w0 : World) (listed : Array Bool) (a : Act) (w : World) : Prop where
 size : listed.size = ops.size
 below : Below w0.heap.size w0 w
 defers : a.defers = a0.defers
 tmps : a.tmps.size = a0.tmps.size
 closed : ∀ (j : Nat) (o : Oper), ops[j]? = some o → listed.getD j false = true → ∀ e ∈ o.after, Region.binds .any e = true → listed.getD e.on false = true
 keep : ∀ t, (∀ (j : Nat) (o : Oper), ops[j]? = some o → o.dst = some t → listed.getD j false = false) → a.eval (.tmp t) = a0.eval (.tmp t)
 done : ∀ (j : Nat) (o : Oper) (d : Tmp), ops[j]? = some o → o.dst = some d → listed.getD j false = true → sp j (a.eval (.tmp d)) w
theorem set_true {listed : Array Bool} {i j : Nat} (h : listed.getD j false = true) : (listed.setIfInBounds i true).getD j false = true := by
 by_cases e : i = j
 · subst e
   have : i < listed.size := by
    rcases Nat.lt_or_ge i listed.size with h' | h'
    · exact h'
    · simp [Array.getElem?_eq_none h'] at h
   simp [this]
 · rw [getD_set_ne false e]; exact h
theorem wp_puts (sp : Nat → Value → World → Prop) (hmono : ∀ j v w w', Below w.heap.size w w' → sp j v w → sp j v w') (hm : P.follows .mixedOrders = true) {a0 : Act} {w0 : World} (hB : putsB ops a0.tmps.size = true)
 (hops : ∀ (i : Nat) (o : Oper), ops[i]? = some o → ∀ (a : Act) (w : World), (∀ t, inB ops i t = true → a.eval (.tmp t) = a0.eval (.tmp t)) → Below w0.heap.size w0 w →
   (∀ e ∈ o.after, Region.binds .any e = true → ∀ (o' : Oper) (d : Tmp), ops[e.on]? = some o' → o'.dst = some d → sp e.on (a.eval (.tmp d)) w) →
   ∀ K : Act → World → Prop, (∀ v w', Below w.heap.size w w' → sp i v w' → K (a.put o.dst v) w') → o.wp P a w K Q)
 (hend : ∀ (vs : List Value) (w : World), vs.length = ops.size → Below w0.heap.size w0 w → (∀ (j : Nat) (v : Value), vs[j]? = some v → sp j v w) → Q .normal (putAll ops.toList vs a0) w)
 (id : Nat) : (Code.region id ops true).wp P Q a0 w0 := by
 refine wp_region_any hm (wpAny_all (PutsJ sp ops a0 w0) (fun _ _ _ h => h.size) (fun i o ho => (putsB_at hB ho).2.2) ?_ ?_ _ _ _ _ ⟨by simp, below_drewN (Below.refl _ _) 1, rfl, rfl, ?_, fun _ _ => rfl, ?_⟩ ?_)
 · intro listed a w h hall
   have hdst : ∀ o ∈ ops.toList, ∃ d, o.dst = some d ∧ d < a0.tmps.size := fun o ho => by
    obtain ⟨i, hi, rfl⟩ := List.getElem_of_mem ho
    obtain ⟨_, ⟨d, hd, hdN, _⟩, _⟩ := putsB_at hB (i := i) (o := ops.toList[i]) (by simp at hi; simp [hi])
    exact ⟨d, hd, hdN⟩
   have hps := putAll_size ops.toList (ops.toList.map fun o => a.eval (.tmp (o.dst.getD 0))) a0 fun o ho => (hdst o ho).imp fun _ h => h.1
   have hpa := putAll_at a ops.toList a0 hdst
   have e : a = putAll ops.toList (ops.toList.map fun o => a.eval (.tmp (o.dst.getD 0))) a0 := by
    have hev : ∀ t, a.eval (.tmp t) = (putAll ops.toList (ops.toList.map fun o => a.eval (.tmp (o.dst.getD 0))) a0).eval (.tmp t) := fun t => by
     rw [hpa t]
     split
     · rfl
     · rename_i hno
       exact h.keep t fun j o hj hd => absurd ⟨o, by rw [Array.mem_toList_iff]; exact Array.mem_of_getElem? hj, hd⟩ hno
    generalize putAll ops.toList (ops.toList.map fun o => a.eval (.tmp (o.dst.getD 0))) a0 = b at hps hev
    have h1 := h.tmps; have h2 := h.defers
    obtain ⟨at', ad⟩ := a; obtain ⟨bt, bd⟩ := b
    have e1 : at' = bt := Array.ext (h1.trans hps.1.symm) fun i hi hi' => by
     have h3 : at'.getD i undef = bt.getD i undef := hev i
     simpa [hi, hi'] using h3
    have e2 : ad = bd := h2.trans hps.2.symm
    rw [e1, e2]
   rw [e]
   refine hend _ _ (by simp) h.below fun j v hv => ?_
   rw [List.getElem?_map, Option.map_eq_some_iff] at hv
   obtain ⟨o, ho, rfl⟩ := hv
   have ho' : ops[j]? = some o := by simpa using ho
   obtain ⟨_, ⟨d, hd, _, _⟩, _⟩ := putsB_at hB ho'
   rw [hd]
   exact h.done j o d ho' hd (hall j (Array.getElem?_eq_some_iff.1 ho').1)
 · intro listed a w i o h hun ho he
   obtain ⟨hg, ⟨d, hd, hdN, hdist⟩, -⟩ := putsB_at hB ho
   have hi : i < ops.size := (Array.getElem?_eq_some_iff.1 ho).1
   have hil : i < listed.size := by rw [h.size]; exact hi
   have hunf : listed.getD i false = false := by simpa [hil] using hun
   have hda : d < a.tmps.size := by rw [h.tmps]; exact hdN
   have hself : (listed.setIfInBounds i true).getD i false = true := by simp [hil]
   unfold wpOp
   rw [ho]
   simp only
   rw [if_pos (by unfold Region.wanted; rw [hg])]
   refine Or.inl (hops i o ho a w (fun t ht => h.keep t fun j oj hj hdj => ?_) h.below (fun e hem hb o' d' ho' hd' => h.done e.on o' d' ho' hd' (he e hem hb)) _ ?_)
   · have h1 := List.all_eq_true.1 ht j (List.mem_range.2 (Array.getElem?_eq_some_iff.1 hj).1)
     rw [hj] at h1
     simp only [Bool.or_eq_true, hdj, bne_self_eq_false, Bool.false_eq_true, false_or, beq_iff_eq] at h1
     rcases h1 with rfl | h1
     · exact hunf
     · obtain ⟨e, hem, h2⟩ := List.any_eq_true.1 h1
       simp only [Bool.and_eq_true, beq_iff_eq] at h2
       cases hl : listed.getD j false with
       | false => rfl
       | true =>
         have := h.closed j oj hj hl e (by simpa using hem) h2.2
         rw [h2.1, hunf] at this; cases this
   · intro v w' hb hs
     have hev := put_at a hda v
     rw [← hd] at hev
     refine ⟨by simpa using h.size, Below.next h.below hb, (by rw [hd]; exact h.defers), (by rw [hd, put_size]; exact h.tmps), ?_, ?_, ?_⟩
     · intro j oj hj hl e hem hbe
       by_cases hji : i = j
       · subst hji
         rw [ho] at hj; injection hj with hj; subst hj
         exact set_true (he e hem hbe)
       · rw [getD_set_ne false hji] at hl
         exact set_true (h.closed j oj hj hl e hem hbe)
     · intro t ht
       have hne : t ≠ d := fun q => by have := ht i o ho (by rw [hd, q]); rw [hself] at this; cases this
       rw [hev t, if_neg hne]
       refine h.keep t fun j oj hj hdj => ?_
       cases hl : listed.getD j false with
       | false => rfl
       | true => have := ht j oj hj hdj; rw [set_true hl] at this; cases this
     · intro j oj dj hj hdj hl
       by_cases hji : i = j
       · subst hji
         rw [ho] at hj; injection hj with hj; subst hj
         rw [hd] at hdj; injection hdj with hdj; subst hdj
         rw [hev d, if_pos rfl]; exact hs
       · rw [getD_set_ne false hji] at hl
         rw [hev dj, if_neg (fun q => hdist j oj hj (Ne.symm hji) (by rw [hdj, q]))]
         exact hmono _ _ _ _ hb (h.done j oj dj hj hdj hl)
 · intro j o _ hl
   rw [getD_replicate_false] at hl; cases hl
 · intro j o d hj hd hl
   rw [getD_replicate_false] at hl; cases hl
 · simp
end
section
variable {P : Program} {o : Oper} {a : Act} {w : World} {Q : Exit → Act → World → Prop} {S : Value → World → Prop}
theorem y_val {v : Value} {w' : World} (h : (execOp a.eval o).run P w = .ok (.value v) w') (hb : Below w.heap.size w w') (hs : S v w') (K : Act → World → Prop) (hK : ∀ v w', Below w.heap.size w w' → S v w' → K (a.put o.dst v) w') : o.wp P a w K Q := by
 unfold Oper.wp; rw [h]; exact hK v w' hb hs
theorem y_move {x : Operand} (ho : o.op = .move x) (hs : S (a.eval x) w) (K : Act → World → Prop) (hK : ∀ v w', Below w.heap.size w w' → S v w' → K (a.put o.dst v) w') : o.wp P a w K Q :=
 y_val (v := a.eval x) (w' := w) (by unfold execOp; rw [ho]; rfl) (Below.refl _ _) hs K hK
theorem y_assign {x : Operand} (ho : o.op = .assign x) (hs : S (a.eval x) w) (K : Act → World → Prop) (hK : ∀ v w', Below w.heap.size w w' → S v w' → K (a.put o.dst v) w') : o.wp P a w K Q :=
 y_val (v := a.eval x) (w' := w) (by unfold execOp; rw [ho]; rfl) (Below.refl _ _) hs K hK
end
end Go.Proofs.YtchmepalhldpcaaGreatDoor.Ov

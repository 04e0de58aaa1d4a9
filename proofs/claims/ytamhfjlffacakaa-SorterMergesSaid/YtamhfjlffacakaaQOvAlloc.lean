/-
  A text of this claim: OvAlloc.
-/
import Derived.Test.YtamhfjlffacakaaQ1
namespace Go.Proofs.Ytamhfjlffacakaa.Ov
open Go.ChangeShapes Go.WideShapes Go.ChangeAt Go.RowKit
abbrev Ovs (w : World) : World → Prop := fun y => ∃ q : Over w, y = q.val
theorem Ovs.self (w : World) : Ovs w w := ⟨⟨w, Below.refl _ _⟩, rfl⟩
def Holds (w : World) (O : Obj) (b : Nat) (y : World) : Prop := Below w.heap.size w y ∧ w.heap.size ≤ b ∧ y.heap[b]? = some O
theorem Holds.over {w : World} {O : Obj} {b : Nat} {y : World} (h : Holds w O b y) : Ovs w y := ⟨⟨y, h.1⟩, rfl⟩
theorem Holds.keep {w : World} {O : Obj} {b : Nat} {y z : World} (h : Holds w O b y) (g : Ovs y z) : Holds w O b z := by
 obtain ⟨⟨z', hz⟩, rfl⟩ := g
 have hb : b < y.heap.size := by
  rcases Nat.lt_or_ge b y.heap.size with q | q
  · exact q
  · have h1 := h.2.2; rw [Array.getElem?_eq_none q] at h1; cases h1
 exact ⟨Below.next h.1 hz, h.2.1, (hz.block b hb).trans h.2.2⟩
theorem Holds.cell {w : World} {cs : Array Value} {t : TypeId} {fz : Nat × Nat} {b : Nat} {y : World} (h : Holds w (.cells cs t fz) b y) (o : Nat) : y.cell? ⟨b, o, none⟩ = cs[o]? := by
 unfold World.cell?; rw [h.2.2]; rfl
theorem Holds.frozen {w : World} {cs : Array Value} {t : TypeId} {b : Nat} {y : World} (h : Holds w (.cells cs t (0, 0)) b y) (o : Nat) : y.frozen? ⟨b, o, none⟩ = false := by
 unfold World.frozen?; rw [h.2.2]; simp
section
variable {P : Program} {ops : Array Oper} {md : Region.Mode} {w : World}
theorem quietAt_mono {o : Oper} {a : Act} {C C' : World → Prop} {x : World} {v : Value} (h : ∀ y, C y → C' y) (hq : o.quietAt P a C x v) : o.quietAt P a C' x v := by
 unfold Oper.quietAt at *
 generalize (execOp a.eval o).run P x = r at *
 cases r with
 | ok n y =>
   cases n <;> simp only [Oper.quietUpon] at hq ⊢ <;> first | exact hq | exact ⟨hq.1, hq.2.mono fun e z hz => ⟨hz.1, h z hz.2⟩⟩
 | halt e y => exact hq
def Steady (P : Program) (ops : Array Oper) (w : World) (o : Oper) (v : Value) (a : Act) : Prop := ∀ x : Over w, YieldsIn P ops (Ovs x.val) o v a
theorem Steady.yields {o : Oper} {v : Value} {a : Act} {C : World → Prop} (h : Steady P ops w o v a) (hC : ∀ y, C y → Ovs w y) (hk : ∀ y z, C y → Ovs y z → C z) : YieldsIn P ops C o v a := by
 rcases h ⟨w, Below.refl _ _⟩ with ⟨hw, _⟩ | hn
 · refine .inl ⟨hw, fun y hy => ?_⟩
   obtain ⟨q, rfl⟩ := hC y hy
   rcases h q with ⟨_, hv⟩ | ⟨hn, _⟩
   · exact quietAt_mono (fun z hz => hk _ z hy hz) (hv q.val (Ovs.self _))
   · rw [hw] at hn; cases hn
 · exact .inr hn
theorem Steady.of_same {o : Oper} {v : Value} {a a' : Act} (h : Steady P ops w o v a) (he : execOp a'.eval o = execOp a.eval o)
 (hw : Region.wanted o (yielded ops a'.tmps) = Region.wanted o (yielded ops a.tmps)) : Steady P ops w o v a' := fun x => (h x).of_same he hw
def HeadsA (P : Program) (md : Region.Mode) (ops : Array Oper) (w : World) (O : Obj) (d : Tmp) (n k : Nat) (L : Nat → Array Bool → Act → Prop) : Nat → Array Bool → Act → Prop
 | 0, _, _ => False
 | f + 1, listed, a => Region.ready md ops listed ≠ [] ∧ ∀ i ∈ Region.ready md ops listed, i < n ∧
    ((i = k → ∀ b, Heads P md ops (Holds w O b) n (L b) f (listed.setIfInBounds k true) (a.put (some d) (.pointer (some ⟨b, 0, none⟩)))) ∧
     (i ≠ k → ∃ o v, ops[i]? = some o ∧ Steady P ops w o v a ∧ HeadsA P md ops w O d n k L f (listed.setIfInBounds i true) (a.put o.dst v)))
theorem HeadsA.any {n k g : Nat} {O : Obj} {d : Tmp} {ok : Oper} {L : Nat → Array Bool → Act → Prop} {Q' : Exit → Act → World → Prop} (hk : ops[k]? = some ok) (hd : ok.dst = some d) (hg : ok.guard = none)
 (hal : ∀ ρ x, (execOp ρ ok).run P x = .ok (.value (.pointer (some ⟨x.heap.size, 0, none⟩))) (x.alloc O))
 (hL : ∀ b listed a x, Holds w O b x → L b listed a → wpAny P md ops Q' g listed a x) :
 ∀ (f : Nat) (listed : Array Bool) (a : Act) (x : World), Ovs w x → HeadsA P md ops w O d n k L f listed a → wpAny P md ops Q' (f + g) listed a x
 | 0, _, _, _, _, h => h.elim
 | f + 1, listed, a, x, hx, h => by
   rw [show f + 1 + g = (f + g) + 1 by omega]
   refine ⟨fun h0 => absurd h0 h.1, fun i hi => ?_⟩
   rcases Nat.decEq i k with e | rfl
   · obtain ⟨o, v, ho, hs, hn⟩ := (h.2 i hi).2.2 e
     exact wpOp_of_qOp (C := Ovs w) hx (fun a' x' hx' h' => HeadsA.any hk hd hg hal hL f _ a' x' hx' h')
      ((hs.yields (fun _ h => h) (fun y z hy hz => by
        obtain ⟨q, rfl⟩ := hy; obtain ⟨r, rfl⟩ := hz; exact ⟨⟨r.val, Below.next q.property r.property⟩, rfl⟩)).qOp ho hn)
   · have h1 := (h.2 i hi).2.1 rfl
     unfold wpOp
     simp only [hk]
     have hw : Region.wanted ok (yielded ops a.tmps) = true := by unfold Region.wanted; rw [hg]
     rw [if_pos hw]
     refine .inl ?_
     unfold Oper.wp
     rw [hal, Oper.upon_value, hd]
     obtain ⟨q, rfl⟩ := hx
     have hsz := q.property.size
     refine Heads.any (fun listed a x hx hl => hL _ listed a x hx hl) f _ _ _ ?_ (h1 q.val.heap.size)
     refine ⟨Below.alloc q.property hsz O, hsz, ?_⟩
     show (q.val.heap.push O)[q.val.heap.size]? = some O
     rw [Array.getElem?_push_size]
theorem HeadsA.first {n k i : Nat} {oi ok : Oper} {v : Value} {O : Obj} {d : Tmp} {L : Nat → Array Bool → Act → Prop} (hi : ops[i]? = some oi) (hk : ops[k]? = some ok) (hd : ok.dst = some d) (hik : i ≠ k)
 (hsel : ∀ (j : Nat) (o : Oper) cs b, ops[j]? = some o → o.op ≠ .select cs b)
 (hs : Region.sinkB md ops n = true) (hc : Region.chainB md ops n = true) (hn : n < ops.size) (hin : i < n) (hdone : ∀ b listed a, L b listed a → ∀ j ∈ Region.ready md ops listed, n ≤ j) (f : Nat) :
 ∀ (listed : Array Bool) (a : Act), HeadInv md ops n listed →
  (∀ j oj, ops[j]? = some oj → j ≠ i → listed.getD j true = false → (∀ e ∈ oj.after, Region.binds md e = true → e.on ≠ i) → oi.apart ops oj = true) →
  i ∈ Region.ready md ops listed → Steady P ops w oi v a →
  HeadsA P md ops w O d n k L f (listed.setIfInBounds i true) (a.put oi.dst v) → HeadsA P md ops w O d n k L (f + 1) listed a := by
 induction f with
 | zero => intro listed a _ _ _ _ H; exact H.elim
 | succ f ih =>
   intro listed a inv hfree hr hy H
   have hun := (mem_ready.1 hr).1
   refine ⟨List.ne_nil_of_mem hr, fun j hj => ?_⟩
   have hjn : j < n := Nat.lt_of_not_le fun h => tail_waits hs hc hn inv _ i rfl hin hun j h hj
   refine ⟨hjn, ?_⟩
   rcases Nat.decEq j i with e | rfl
   · obtain ⟨hjun, oj, hoj, hall⟩ := mem_ready.1 hj
     have hnot : ∀ e ∈ oj.after, Region.binds md e = true → e.on ≠ i := by
      intro d hd hb he
      have h1 := hall d hd hb
      rw [he, getD_both hun] at h1
      cases h1
     obtain ⟨g1, g2, g3⟩ := Oper.apart_spec (hfree j oj hoj e hjun hnot)
     have hfree' : ∀ k ok, ops[k]? = some ok → k ≠ i → (listed.setIfInBounds j true).getD k true = false →
      (∀ e ∈ ok.after, Region.binds md e = true → e.on ≠ i) → oi.apart ops ok = true := by
      intro k ok hk hki hku hno
      refine hfree k ok hk hki ?_ hno
      rcases Nat.decEq j k with d | rfl
      · rwa [getD_set_ne true d] at hku
      · exact hjun
     have keep : ∀ u, Steady P ops w oi v (a.put oj.dst u) := fun u => hy.of_same (execOp_put oi (fun cs b => hsel i oi cs b hi) a oj.dst u g3) (wanted_put oi a oj.dst u g3)
     have Hj := (H.2 j (ready_mono hj e)).2
     refine ⟨fun hjk => ?_, fun hjk => ?_⟩
     · subst hjk
       obtain rfl : oj = ok := Option.some.inj (hoj.symm.trans hk)
       intro b
       have h1 := Hj.1 rfl b
       refine Heads.first hi hsel hs hc hn hin (hdone b) f _ _ (inv.set hj hjn) hfree' (ready_mono hr (Ne.symm e)) (v := v) ?_ ?_
       · rw [← hd]
         exact (keep _).yields (fun _ h => h.over) (fun _ _ h g => h.keep g)
       · rw [Array.setIfInBounds_comm _ _ e, ← hd, ← Act.put_comm a v _ g2, hd]; exact h1
     · obtain ⟨oj', u, hoj', hyj, h1⟩ := Hj.2 hjk
       obtain rfl : oj = oj' := Option.some.inj (hoj.symm.trans hoj')
       refine ⟨oj, u, hoj, hyj.of_same (execOp_put oj (fun cs b => hsel j oj cs b hoj) a oi.dst v g1).symm (wanted_put oj a oi.dst v g1).symm, ?_⟩
       refine ih (listed.setIfInBounds j true) _ (inv.set hj hjn) hfree' (ready_mono hr (Ne.symm e)) (keep u) ?_
       rw [Array.setIfInBounds_comm _ _ e, ← Act.put_comm a v u g2]; exact h1
   · exact ⟨fun h => absurd h hik, fun _ => ⟨oi, v, hi, hy, H⟩⟩
def ownSlots (sz : Nat) : List Oper → Bool
 | [] => true
 | o :: l => (match o.dst with | some s => decide (s < sz) && l.all fun p => p.dst != some s | none => false) && ownSlots sz l
theorem put_size (a : Act) (d : Option Tmp) (v : Value) : (a.put d v).tmps.size = a.tmps.size := by cases d <;> simp [Act.put]
theorem kept_slot {C : World → Prop} {aE : Act} {s : Nat} : ∀ (l : List Oper) (a : Act), (l.all fun p => p.dst != some s) = true → wpQuiet P ops C (fun a' => a' = aE) l a → aE.tmps[s]? = a.tmps[s]?
 | [], a, _, h => by rw [show a = aE from h]
 | o :: l, a, hl, h => by
   rw [List.all_cons, Bool.and_eq_true] at hl
   have hne : ∀ u, (a.put o.dst u).tmps[s]? = a.tmps[s]? := fun u => by
    have h1 := hl.1
    cases hd : o.dst with
    | none => rfl
    | some d =>
      rw [hd] at h1
      have : d ≠ s := fun e => by subst e; simp at h1
      simp [Act.put, Array.getElem?_setIfInBounds_ne this]
   unfold wpQuiet at h
   split at h
   · obtain ⟨v, _, h2⟩ := h
     exact (kept_slot l _ hl.2 h2).trans (hne v)
   · exact (kept_slot l _ hl.2 h).trans (hne _)
theorem steady_of {aE a : Act} {o : Oper} {l : List Oper} (hl : ownSlots a.tmps.size (o :: l) = true) (h : ∀ x : Over w, wpQuiet P ops (Ovs x.val) (fun a' => a' = aE) (o :: l) a) :
 ∃ v, Steady P ops w o v a ∧ ∀ x : Over w, wpQuiet P ops (Ovs x.val) (fun a' => a' = aE) l (a.put o.dst v) := by
 by_cases hw : Region.wanted o (yielded ops a.tmps) = true
 · have h' : ∀ x : Over w, o.quiet P a (Ovs x.val) (wpQuiet P ops (Ovs x.val) (fun a' => a' = aE) l) := fun x => by
    have := h x; unfold wpQuiet at this; rwa [if_pos hw] at this
   unfold ownSlots at hl
   rw [Bool.and_eq_true] at hl
   cases hd : o.dst with
   | none => rw [hd] at hl; simp at hl
   | some s =>
     rw [hd] at hl
     simp only [Bool.and_eq_true, decide_eq_true_eq] at hl
     have hv : ∀ x : Over w, (∀ y, Ovs x.val y → o.quietAt P a (Ovs x.val) y (aE.tmps[s]?.getD undef)) ∧ wpQuiet P ops (Ovs x.val) (fun a' => a' = aE) l (a.put (some s) (aE.tmps[s]?.getD undef)) := fun x => by
      obtain ⟨v, h1, h2⟩ := h' x
      rw [hd] at h2
      have h3 := kept_slot l _ hl.1.2 h2
      have h4 : (a.put (some s) v).tmps[s]? = some v := by simp [Act.put, hl.1.1]
      rw [h3, h4]
      exact ⟨h1, h2⟩
     exact ⟨_, fun x => .inl ⟨hw, (hv x).1⟩, fun x => (hv x).2⟩
 · have hw' : Region.wanted o (yielded ops a.tmps) = false := by simpa using hw
   refine ⟨undef, fun x => .inr ⟨hw', rfl⟩, fun x => ?_⟩
   have := h x; unfold wpQuiet at this; rwa [if_neg hw] at this
theorem HeadsA.lex {g m : Nat} {ok : Oper} {O : Obj} {d : Tmp} {aE : Act} {Lq : Nat → Act → Prop} (hk : ops[m]? = some ok) (hd : ok.dst = some d) (hsel : Region.noSelect ops = true)
 (hs : Region.sinkB md ops (m + 1) = true) (hc : Region.chainB md ops (m + 1) = true) (hn : m + 1 < ops.size) (hq : ∀ b, Lq b (aE.put (some d) (.pointer (some ⟨b, 0, none⟩)))) :
 ∀ (l : List Oper) (k : Nat) (listed : Array Bool) (a : Act), (∀ j, j < l.length → l[j]? = ops[k + j]?) → k + l.length = m → HeadInv md ops (m + 1) listed → ownSlots a.tmps.size l = true →
 Region.lexHead md ops (g + 1) l.length k listed = true → (∀ x : Over w, wpQuiet P ops (Ovs x.val) (fun a' => a' = aE) l a) →
 HeadsA P md ops w O d (m + 1) m (fun b listed' a' => Region.seqB md ops g (m + 1) listed' = true ∧ Lq b a') (l.length + 1) listed a
 | [], k, listed, a, _, hkm, _, _, hB, h => by
   obtain rfl : k = m := by simpa using hkm
   have ha : a = aE := h ⟨w, Below.refl _ _⟩
   subst ha
   simp only [List.length_nil, Region.lexHead, Region.seqB, Bool.and_eq_true, decide_eq_true_eq] at hB
   refine ⟨by rw [hB.1]; simp, fun i hi => ?_⟩
   rw [hB.1] at hi
   obtain rfl : i = k := by simpa using hi
   exact ⟨by omega, fun _ b => ⟨hB.2, hq b⟩, fun h => absurd rfl h⟩
 | o :: l, k, listed, a, hl, hkm, inv, hsl, hB, h => by
   have h0 : ops[k]? = some o := by simpa using (hl 0 (by simp)).symm
   simp only [List.length_cons, Region.lexHead, Bool.and_eq_true] at hB
   obtain ⟨⟨hr, hf⟩, hB'⟩ := hB
   have hr' : k ∈ Region.ready md ops listed := by simpa using hr
   have hkm' : k + 1 + l.length = m := by rw [← hkm, List.length_cons]; omega
   obtain ⟨v, hy, hK⟩ := steady_of hsl h
   refine HeadsA.first h0 hk hd (by omega) (Region.noSelect_spec hsel) hs hc hn (by omega) (fun b listed' a' hL => seqB_ready hL.1) _ listed a inv (Region.free_spec h0 hf) hr' hy
    (HeadsA.lex hk hd hsel hs hc hn hq l (k + 1) _ _ (fun j hj => by have := hl (j + 1) (by simp; omega); simpa [Nat.add_assoc, Nat.add_comm 1 j] using this) hkm' (inv.set hr' (by omega)) ?_ hB' hK)
   rw [put_size]
   unfold ownSlots at hsl
   rw [Bool.and_eq_true] at hsl
   exact hsl.2
def lexAllocB (ops : Array Oper) (m : Nat) : Bool :=
 Region.noSelect ops && decide (m + 1 < ops.size) && Region.sinkB .any ops (m + 1) && Region.chainB .any ops (m + 1) && Region.lexHead .any ops (ops.size - m) m 0 (Array.replicate ops.size false)
theorem wp_over_alloc {id : Nat} {Q : Exit → Act → World → Prop} {a : Act} {l : List Oper} {ok : Oper} {O : Obj} {d : Tmp} (m : Nat) (hm : P.follows .mixedOrders = true) (hB : lexAllocB l.toArray m = true)
 (hk : l.toArray[m]? = some ok) (hd : ok.dst = some d) (hg : ok.guard = none) (hal : ∀ ρ x, (execOp ρ ok).run P x = .ok (.value (.pointer (some ⟨x.heap.size, 0, none⟩))) (x.alloc O)) (hsl : ownSlots a.tmps.size (l.take m) = true)
 (h : ∃ aE : Act, (∀ x : Over w, wpQuiet P l.toArray (fun w' => ∃ q : Over x.val, w' = q.val) (fun a' => a' = aE) (l.take m) a) ∧
   ∀ b w', Holds w O b w' → wpList P l.toArray Q (l.drop (m + 1)) (aE.put (some d) (.pointer (some ⟨b, 0, none⟩))) w') : (Code.region id l.toArray true).wp P Q a w := by
 obtain ⟨aE, h, ht⟩ := h
 unfold lexAllocB at hB
 simp only [Bool.and_eq_true, decide_eq_true_eq] at hB
 obtain ⟨⟨⟨⟨hsel, hn⟩, hs⟩, hc⟩, hlex⟩ := hB
 have hn' : m + 1 < l.length := by simpa using hn
 have htl : (l.take m).length = m := by simp; omega
 have hdl : (l.drop (m + 1)).length = l.toArray.size - (m + 1) := by simp
 have inv0 : HeadInv .any l.toArray (m + 1) (Array.replicate l.toArray.size false) :=
  ⟨by simp, fun j oj _ hl => (by rw [getD_replicate_false] at hl; cases hl), fun t _ ht => getD_in (by simpa using ht) (getD_replicate_false _ _)⟩
 have hg1 : l.toArray.size - m = l.toArray.size - (m + 1) + 1 := by omega
 have hw : Ovs w { w with drawn := w.drawn + 1 } := ⟨⟨w.drew, below_drewN (Below.refl _ _) 1⟩, rfl⟩
 have H := HeadsA.lex (w := w) (md := .any) (g := l.toArray.size - (m + 1)) (O := O) (Lq := fun b a' => ∀ w', Holds w O b w' → wpList P l.toArray Q (l.drop (m + 1)) a' w') hk hd hsel hs hc hn (fun b w' hw' => ht b w' hw') (l.take m) 0 _ a (fun j hj => by
  have hj' : j < m := by rw [htl] at hj; exact hj
  simp [hj']) (by simpa using htl) inv0 hsl (by rw [htl, ← hg1]; exact hlex) h
 refine wp_region_any hm ?_
 have H2 := HeadsA.any (Q' := Q) (g := l.toArray.size - (m + 1)) hk hd hg hal (fun b listed a' x hx hL => by
  have h1 := wpAny_of_seq (md := .any) (Q' := Q) (l.drop (m + 1)) (m + 1) listed a' x (fun j => by simp [List.getElem?_drop]) (by rw [hdl]; exact hL.1) (hL.2 x hx)
  rwa [hdl] at h1) _ _ _ _ hw H
 rw [htl, show m + 1 + (l.toArray.size - (m + 1)) = l.toArray.size by omega] at H2
 exact H2
end
end Go.Proofs.Ytamhfjlffacakaa.Ov

/-
  A text of this claim: PrRef.
-/
import Derived.Test.YtamhfjlffacakaaQ4
import Derived.BigQuiet
namespace Go.Proofs.Ytamhfjlffacakaa.Pr
open Go.ChangeShapes Go.WideShapes Go.ChangeAt Go.RowKit Go.Sort Go.Proofs Ov Va St
theorem set_right (a b : List Value) (n : Nat) (u : Value) (h : a.length = n) (k : Nat) : (a ++ b).set (n + k) u = a ++ b.set k u := by
 subst h
 rw [List.set_append_right _ _ (by omega), Nat.add_sub_cancel_left]
theorem pcells_set (l : List Pr) (j : Nat) (q : Pr) (h : j < l.length) : pcells (l.set j q) =
 ((((((pcells l).set (j * 6) (.string (tx q.1))).set (j * 6 + 1) (.int .i64 q.2.k)).set (j * 6 + 2) (.int .i64 q.2.n)).set (j * 6 + 3) (.string (tx q.2.s))).set (j * 6 + 4) (.int .i64 q.2.x)).set (j * 6 + 5) (.int .i64 q.2.y) := by
 induction l generalizing j with
 | nil => exact absurd h (Nat.not_lt_zero _)
 | cons n t ih =>
   cases j with
   | zero => rfl
   | succ j =>
     have e : ∀ l : List Pr, pcells (n :: l) = pcl n ++ pcells l := fun _ => rfl
     rw [List.set_cons_succ, e, e, ih j (by simpa using h), show (j + 1) * 6 = 6 + j * 6 by omega]
     simp only [Nat.add_assoc]
     rw [set_right _ _ 6 _ rfl, set_right _ _ 6 _ rfl, set_right _ _ 6 _ rfl, set_right _ _ 6 _ rfl, set_right _ _ 6 _ rfl, set_right _ _ 6 _ rfl]
theorem own_set6 {P : World → Prop} {lo : Nat} {W w : World} {B g c n o : Nat} {l : List Pr} (h : w.ownsRow B 35 6 (.slice (some ⟨g, 0, none⟩) n c) n (pcells l)) (hb : Below lo W w) (hlo : lo ≤ B) (j : Nat) (hj : j < l.length) (ho : o = j * 6) (q : Pr)
 (k : ∀ w', w'.ownsRow B 35 6 (.slice (some ⟨g, 0, none⟩) n c) n (pcells (l.set j q)) → Below lo W w' → P w') :
 P ((((((w.setCell ⟨g, o, none⟩ (.string (tx q.1))).setCell ⟨g, o + 1, none⟩ (.int .i64 q.2.k)).setCell ⟨g, o + 2, none⟩ (.int .i64 q.2.n)).setCell ⟨g, o + 3, none⟩ (.string (tx q.2.s))).setCell ⟨g, o + 4, none⟩ (.int .i64 q.2.x)).setCell ⟨g, o + 5, none⟩ (.int .i64 q.2.y)) := by
 subst ho
 have hg := (h.lt g rfl).1
 have hl : lo ≤ g := by omega
 refine k _ ?_ ((((((hb.setCell (p := ⟨g, _, none⟩) hl _).setCell (p := ⟨g, _, none⟩) hl _).setCell (p := ⟨g, _, none⟩) hl _).setCell (p := ⟨g, _, none⟩) hl _).setCell (p := ⟨g, _, none⟩) hl _).setCell (p := ⟨g, _, none⟩) hl _)
 rw [pcells_set l j q hj]
 exact ((((((h.stored _ _).1.stored _ _).1.stored _ _).1.stored _ _).1.stored _ _).1.stored _ _).1
theorem own_set6s {lo : Nat} {W w : World} {B g c n o : Nat} {l : List Pr} (h : w.ownsRow B 35 6 (.slice (some ⟨g, 0, none⟩) n c) n (pcells l)) (hb : Below lo W w) (hlo : lo ≤ B) (j : Nat) (hj : j < l.length) (ho : o = j * 6) (q : Pr) {m : List Pr} (hm : l.set j q = m) :
 Hid (((((((w.setCell ⟨g, o, none⟩ (.string (tx q.1))).setCell ⟨g, o + 1, none⟩ (.int .i64 q.2.k)).setCell ⟨g, o + 2, none⟩ (.int .i64 q.2.n)).setCell ⟨g, o + 3, none⟩ (.string (tx q.2.s))).setCell ⟨g, o + 4, none⟩ (.int .i64 q.2.x)).setCell ⟨g, o + 5, none⟩ (.int .i64 q.2.y)).ownsRow B 35 6 (.slice (some ⟨g, 0, none⟩) n c) n (pcells m)) ∧
 Hid (Below lo W ((((((w.setCell ⟨g, o, none⟩ (.string (tx q.1))).setCell ⟨g, o + 1, none⟩ (.int .i64 q.2.k)).setCell ⟨g, o + 2, none⟩ (.int .i64 q.2.n)).setCell ⟨g, o + 3, none⟩ (.string (tx q.2.s))).setCell ⟨g, o + 4, none⟩ (.int .i64 q.2.x)).setCell ⟨g, o + 5, none⟩ (.int .i64 q.2.y))) := by
 subst hm
 exact own_set6 (P := fun w' => Hid (w'.ownsRow B 35 6 (.slice (some ⟨g, 0, none⟩) n c) n (pcells (l.set j q))) ∧ Hid (Below lo W w')) h hb hlo j hj ho q fun w' h1 h2 => ⟨h1, h2⟩
theorem set_mid {X Y : Pr} (m : List Pr) (j : Nat) (h : j ≤ m.length) : (m.take j ++ X :: m.drop j).set j Y = m.take j ++ Y :: m.drop j := by
 have e : (m.take j).length = j := by rw [List.length_take]; omega
 rw [List.set_append_right _ _ (by omega), e, Nat.sub_self]; rfl
theorem mid_len {X : Pr} (m : List Pr) (j : Nat) : (m.take j ++ X :: m.drop j).length = m.length + 1 := by
 rw [List.length_append, List.length_cons, List.length_take, List.length_drop]; omega
theorem mid_step {X : Pr} (m : List Pr) (j : Nat) (h0 : 0 < j) (h : j ≤ m.length) : pd (m.take j ++ X :: m.drop j) (j - 1) = pd m (j - 1) ∧ (m.take j ++ X :: m.drop j).set j (pd m (j - 1)) = m.take (j - 1) ++ pd m (j - 1) :: m.drop (j - 1) := by
 obtain ⟨i, rfl⟩ : ∃ i, j = i + 1 := ⟨j - 1, by omega⟩
 have hi : i < m.length := by omega
 refine ⟨?_, ?_⟩
 · unfold pd
   rw [List.getElem?_append_left (by rw [List.length_take]; omega), List.getElem?_take, if_pos (by omega)]
 · rw [set_mid m (i + 1) h, Nat.add_sub_cancel, List.take_succ_eq_append_getElem hi, List.append_assoc, List.drop_eq_getElem_cons hi, pd_at hi]
   rfl
theorem sr_mid (l m : List Pr) (p : Pr) (k : Nat) (hm : m = sr l) (hk : k ≤ m.length) (h1 : ∀ x ∈ m.drop k, kl p x = true) (h2 : 0 < k → kl p (pd m (k - 1)) = false) : m.take k ++ p :: m.drop k = sr (l ++ [p]) := by
 have hO : Od m := by rw [hm]; exact sr_od l
 have hO2 : Od (m.take k ++ m.drop k) := by rw [List.take_append_drop]; exact hO
 obtain ⟨o1, o2, o3⟩ := List.pairwise_append.1 hO2
 have h3 : ∀ x ∈ m.take k, kl p x = false := fun x hx => by
  have hk0 : 0 < k := by
   rcases Nat.eq_zero_or_pos k with rfl | h
   · simp at hx
   · exact h
  have hp := h2 hk0
  obtain ⟨i, hi, rfl⟩ := List.getElem_of_mem hx
  have hi' : i < k := by rw [List.length_take] at hi; omega
  rw [List.getElem_take]
  by_cases e : i = k - 1
  · subst e
    rwa [pd_at (by omega)] at hp
  · have := List.pairwise_iff_getElem.1 hO i (k - 1) (by omega) (by omega) (by omega)
    rw [pd_at (by omega)] at hp
    exact swo.ntrans _ _ _ hp this
 refine sr_uniq _ _ ?_ fun z => ?_
 · refine List.pairwise_append.2 ⟨o1, List.pairwise_cons.2 ⟨fun b hb => swo.asymmA (h1 b hb), o2⟩, fun a ha b hb => ?_⟩
   rcases List.mem_cons.1 hb with rfl | hb
   · exact h3 a ha
   · exact o3 a ha b hb
 · have e1 : ky z (m.take k) ++ ky z (m.drop k) = ky z l := by rw [← ky_append, List.take_append_drop, hm, sr_ky]
   have e2 : ∀ t, ky z (p :: t) = ky z [p] ++ ky z t := fun t => ky_append z [p] t
   rw [ky_append, e2, ky_append z l, ← e1]
   by_cases hz : p.1 = z
   · have : ky z (m.drop k) = [] := List.filter_eq_nil_iff.2 fun x hx => by
      have := h1 x hx
      simp only [decide_eq_true_eq]
      intro e
      unfold kl at this
      rw [hz, e, less_irrefl] at this; cases this
     rw [this, List.append_nil, List.append_nil]
   · have : ky z [p] = [] := List.filter_eq_nil_iff.2 fun x hx => by
      rcases List.mem_cons.1 hx with rfl | h
      · simpa using hz
      · cases h
     rw [this, List.append_nil, List.nil_append]
theorem take_snoc (l : List Pr) (i : Nat) (h : i < l.length) : l.take (i + 1) = l.take i ++ [pd l i] := by rw [List.take_succ_eq_append_getElem h, pd_at h]
theorem drop_pred (m : List Pr) (k : Nat) (h0 : 0 < k) (h : k ≤ m.length) : m.drop (k - 1) = pd m (k - 1) :: m.drop k := by
 obtain ⟨i, rfl⟩ : ∃ i, k = i + 1 := ⟨k - 1, by omega⟩
 rw [Nat.add_sub_cancel, List.drop_eq_getElem_cons (by omega), pd_at (by omega)]
theorem gt_tx (y p : Pr) : (!Op.bytesLess (tx y.1).toList (tx p.1).toList && !(tx y.1).toList == (tx p.1).toList) = kl p y := by
 have e : ∀ l, (tx l).toList = l := fun l => by rw [ByteArray.toList_eq, tx_list]
 rw [e, e]
 unfold kl
 rcases less_total y.1 p.1 with h | h | h
 · rw [h, less_asymm h]; rfl
 · have hne : (y.1 == p.1) = false := by
    simp only [beq_eq_false_iff_ne, ne_eq]
    intro e; rw [e, less_irrefl] at h; cases h
   rw [less_asymm h, h, hne]; rfl
 · rw [h, less_irrefl]; simp
theorem own_succ {w : World} {base : Nat} {e : TypeId} {v : Value} {k : Nat} {xs : List Value} (h : w.ownsRow base e 6 v (k + 1) xs) : ∃ g cap, v = .slice (some ⟨g, 0, none⟩) (k + 1) cap := by
 rcases h.2 with ⟨_, h0⟩ | ⟨g, cap, cur, e1, _⟩
 · omega
 · exact ⟨g, cap, e1⟩
theorem own_lit (w : World) (p : Pr) : PIn (w.alloc (.cells (pcells [p]).toArray 35)) (some ⟨w.heap.size, 0, none⟩, 1, [p]) := ⟨prs_made w [p] _, fun h => nomatch h⟩
set_option maxRecDepth 100000 in
set_option maxHeartbeats 4000000 in
theorem rsort_any (A : Option Addr) (c : Nat) (l : List Pr) (w : World) (h : Prs w A l) (hl : l.length ≤ 100000) :
 Calls Try.prog 14 #[.slice A l.length c] w fun e w' => ∃ v, e = .returned v ∧ w'.ownsRow w.heap.size 35 6 v l.length (pcells (sr l)) ∧ Below w.heap.size w w' := by
 have HN := Lib.hid h
 clear h
 go_enter Try.func14, Try.ntmps14
 go_wp2_with (fail)
 go_loopg [3, 4] l.length (fun kx s3 s4 wr => ∃ i : Nat, i ≤ l.length ∧ l.length - i ≤ kx ∧ s4 = .int .i64 i ∧ Hid (wr.ownsRow w.heap.size 35 6 s3 i (pcells (sr (l.take i)))) ∧ Hid (Below w.heap.size w wr))
 case atStart => exact ⟨0, Nat.zero_le _, by omega, rfl, Lib.hid (by rw [List.take_zero]; exact World.ownsRow_nil _ _ _ _), Lib.hid (Below.refl _ _)⟩
 case round =>
  obtain ⟨i, hi, hkx, rfl, HO, HB⟩ := hrel
  by_cases hlt : i < l.length
  · have hltz : (i : Int) < (l.length : Int) := by omega
    obtain ⟨m, hm⟩ : ∃ m, m = sr (l.take i) := ⟨_, rfl⟩
    have hml : m.length = i := by rw [hm, sr_len, List.length_take]; omega
    obtain ⟨p, hp⟩ : ∃ p, p = pd l i := ⟨_, rfl⟩
    rw [← hm] at HO
    obtain ⟨A1, c1, rfl, hpin⟩ := own_pin (l := m) (by rw [hml]; exact HO.out)
    rw [hml]
    have HP := Lib.hid hpin; clear hpin
    have HM := Lib.hid hm; have HQ := Lib.hid hp; have HL := Lib.hid hml
    clear hm hml hp
    rw [HL.out] at HO
    go_wp2_with (fail)
    go_loopg [5] (i + 1) (fun kx s5 wr2 => ∃ k q : Nat, k ≤ i ∧ k ≤ kx ∧ s5 = .int .i64 k ∧ wr2 = wr.drewN q ∧ Hid (∀ x ∈ m.drop k, kl p x = true))
    case atStart => exact ⟨i, 0, Nat.le_refl _, by omega, rfl, rfl, Lib.hid (by rw [List.drop_eq_nil_of_le (by rw [HL.out]; exact Nat.le_refl _)]; intro x hx; cases hx)⟩
    case round =>
     obtain ⟨k, q, hk, hkk, rfl, rfl, HD⟩ := hrel
     have HB2 := Lib.hid (below_drewN HB.out q)
     have HO2 : Hid ((wr.drewN q).ownsRow w.heap.size 35 6 (.slice A1 i c1) i (pcells m)) := HO.out
     have hP2 : Prs (wr.drewN q) A1 m := HP.out.1
     have hN2 : Prs (wr.drewN q) A l := HN.out.next HB2.out
     have hW := HB2.out.size
     clear HO HB HP
     generalize hwq : wr.drewN q = wq at *
     have HWQ := Lib.hid hwq; clear hwq
     obtain ⟨GA, OA, rfl⟩ := hN2.shape (by omega)
     have HN2 := Lib.hid hN2; clear hN2
     by_cases hk0 : 0 < k
     case' pos =>
      obtain ⟨j, rfl⟩ : ∃ j, k = j + 1 := ⟨k - 1, by omega⟩
      have hjz : (0 : Int) < ((j + 1 : Nat) : Int) := by omega
      have hml := HL.out
      obtain ⟨G, O, rfl⟩ := hP2.shape (by omega)
      have a0 := hP2.cell (i := j) (by omega) 0 _ rfl
      have b0 := HN2.out.cell (i := i) hlt 0 _ rfl
      clear hml
      rw [Nat.add_zero] at a0 b0
      rw [← HQ.out] at b0
      have hcmp := gt_tx (pd m j) p
      have e2 : ((j + 1 : Nat) : Int) - 1 = (j : Int) := by omega
      have hj1 : (j : Int) < (i : Int) := by omega
      have HDP := Lib.hid (drop_pred m (j + 1) (by omega) (by rw [HL.out]; omega))
      rw [Nat.add_sub_cancel] at HDP
      obtain ⟨y, hy⟩ : ∃ y, y = pd m j := ⟨_, rfl⟩
      rw [← hy] at a0 hcmp HDP
      have HY := Lib.hid hy
      clear hy hP2
      generalize tx y.1 = s0 at *
      generalize tx p.1 = s1 at *
      cases hkb : kl p y
      case' true =>
       rw [hkb] at hcmp
       have HKB := Lib.hid hkb; clear hkb
       go_wp2_with (fail)
       go_quiet (fail)
       go_wp2_with (fail)
       go_roundg j
       case measure => omega
       case rel => exact ⟨j, q + _, by omega, Nat.le_refl _, by go_num, by rw [← HWQ.out, World.drewN_drewN], Lib.hid (fun x hx => by
        rw [HDP.out] at hx
        rcases List.mem_cons.1 hx with rfl | hx
        · exact HKB.out
        · exact HD.out x hx)⟩
      case' false =>
       rw [hkb] at hcmp
       have HKB : Hid (0 < j + 1 → kl p (pd m (j + 1 - 1)) = false) := fun _ => by rw [Nat.add_sub_cancel, ← HY.out]; exact hkb
       clear hkb HDP HY
       go_wp2_with (fail)
       go_quiet (fail)
       go_upto_region 8 with fail
       clear a0 b0 hcmp e2 hj1 hjz hk0
       generalize hjk : j + 1 = k at *
       clear hjk
       generalize (some (⟨G, O, none⟩ : Addr)) = A1 at *
     case' neg =>
      have hk0z : ¬ (0 : Int) < (k : Int) := by omega
      have HKB : Hid (0 < k → kl p (pd m (k - 1)) = false) := fun h => absurd h hk0
      have hk00 : decide (0 < k) = false := decide_eq_false hk0
      have hk01 : decide ((0 : Int) < (k : Int)) = false := decide_eq_false hk0z
      clear hP2
      go_wp2_with (fail)
      go_quiet (fail)
      go_upto_region 8 with fail
      clear hk0z hk00 hk01 hk0
     all_goals
      obtain ⟨w3, hw3⟩ : ∃ w3, w3 = wq.drewN nq := ⟨_, rfl⟩
      have HO3 : Hid (w3.ownsRow w.heap.size 35 6 (.slice A1 i c1) m.length (pcells m)) := by rw [hw3, HL.out]; exact HO2.out
      have HB3 : Hid (Below w.heap.size w w3) := by rw [hw3]; exact below_drewN HB2.out nq
      have hN3 : Prs w3 (some ⟨GA, OA, none⟩) l := by rw [hw3]; exact HN2.out
      rw [← hw3]
      clear hw3 HN2 HO2 HB2 hW HWQ
      have b0 := hN3.cell (i := i) hlt 0 _ rfl
      have b1 := hN3.cell (i := i) hlt 1 _ rfl
      have b2 := hN3.cell (i := i) hlt 2 _ rfl
      have b3 := hN3.cell (i := i) hlt 3 _ rfl
      have b4 := hN3.cell (i := i) hlt 4 _ rfl
      have b5 := hN3.cell (i := i) hlt 5 _ rfl
      rw [← HQ.out] at b0 b1 b2 b3 b4 b5
      rw [Nat.add_zero] at b0
      have hz : m.length + 1 ≤ 1000000 := by rw [HL.out]; omega
      clear hN3
      have HZ := Lib.hid hz; clear hz
      go_wp2_with (at_builtin; refine wp_append_part rfl _ _ rfl w.heap.size _ m rfl (HO3.out.alloc _) (some ⟨w3.heap.size, 0, none⟩, 1, [p]) (own_lit w3 p) rfl HZ.out (Nat.le_trans HB3.out.size (by simp)) ?_)
      clear b0 b1 b2 b3 b4 b5
      intro v' w4 hown hgrow
      rw [HL.out] at hown
      obtain ⟨g, cap, rfl⟩ := own_succ hown
      have HB4 := Lib.hid ((HB3.out.alloc HB3.out.size _).grown hgrow (Nat.le_trans HB3.out.size (by simp)) (fun g e => (HO3.out.lt g e).1))
      have HO4 : Hid (w4.ownsRow w.heap.size 35 6 (.slice (some ⟨g, 0, none⟩) (i + 1) cap) (i + 1) (pcells (m.take i ++ p :: m.drop i))) := by
       have e : m.take i ++ p :: m.drop i = m ++ [p] := by rw [← HL.out, List.take_length, List.drop_length]
       rw [e]; exact hown
      clear hown hgrow HO3 HB3 HZ
      go_wp2_with (fail)
      go_loopg [6] (i + 1) (fun kx s6 w5 => ∃ (j : Nat) (X : Pr), k ≤ j ∧ j ≤ i ∧ j ≤ kx ∧ s6 = .int .i64 j ∧ Hid (w5.ownsRow w.heap.size 35 6 (.slice (some ⟨g, 0, none⟩) (i + 1) cap) (i + 1) (pcells (m.take j ++ X :: m.drop j))) ∧ Hid (Below w.heap.size w w5))
      case atStart => exact ⟨i, p, by omega, Nat.le_refl _, by omega, by go_num, HO4, HB4⟩
      case round =>
       clear HO4 HB4
       obtain ⟨j, X, hkj, hji, hjx, rfl, HO5, HB5⟩ := hrel
       have hlen : i + 1 = (m.take j ++ X :: m.drop j).length := by rw [mid_len, HL.out]
       by_cases hjk : k < j
       · obtain ⟨j, rfl⟩ : ∃ t, j = t + 1 := ⟨j - 1, by omega⟩
         have hjkz : (k : Int) < ((j + 1 : Nat) : Int) := by omega
         obtain ⟨_, _, hh⟩ := holds_of_own HO5.out hlen
         have hst := mid_step (X := X) m (j + 1) (by omega) (by rw [HL.out]; omega)
         rw [Nat.add_sub_cancel] at hst
         have c0 := (holds_cell hh (i := j) (j := 0) (by omega) rfl).1
         have c1 := (holds_cell hh (i := j) (j := 1) (by omega) rfl).1
         have c2 := (holds_cell hh (i := j) (j := 2) (by omega) rfl).1
         have c3 := (holds_cell hh (i := j) (j := 3) (by omega) rfl).1
         have c4 := (holds_cell hh (i := j) (j := 4) (by omega) rfl).1
         have c5 := (holds_cell hh (i := j) (j := 5) (by omega) rfl).1
         have d0 := (holds_cell hh (i := j + 1) (j := 0) (by omega) rfl)
         have d1 := (holds_cell hh (i := j + 1) (j := 1) (by omega) rfl)
         have d2 := (holds_cell hh (i := j + 1) (j := 2) (by omega) rfl)
         have d3 := (holds_cell hh (i := j + 1) (j := 3) (by omega) rfl)
         have d4 := (holds_cell hh (i := j + 1) (j := 4) (by omega) rfl)
         have d5 := (holds_cell hh (i := j + 1) (j := 5) (by omega) rfl)
         rw [hst.1] at c0 c1 c2 c3 c4 c5
         rw [Nat.add_zero] at c0 d0
         have HST := Lib.hid hst.2
         have HLEN := Lib.hid hlen
         obtain ⟨u0, d0, f0⟩ : ∃ u, wr.cell? ⟨g, (j + 1) * 6, none⟩ = some u ∧ wr.frozen? ⟨g, (j + 1) * 6, none⟩ = false := ⟨_, d0⟩
         obtain ⟨u1, d1, f1⟩ : ∃ u, wr.cell? ⟨g, (j + 1) * 6 + 1, none⟩ = some u ∧ wr.frozen? ⟨g, (j + 1) * 6 + 1, none⟩ = false := ⟨_, d1⟩
         obtain ⟨u2, d2, f2⟩ : ∃ u, wr.cell? ⟨g, (j + 1) * 6 + 2, none⟩ = some u ∧ wr.frozen? ⟨g, (j + 1) * 6 + 2, none⟩ = false := ⟨_, d2⟩
         obtain ⟨u3, d3, f3⟩ : ∃ u, wr.cell? ⟨g, (j + 1) * 6 + 3, none⟩ = some u ∧ wr.frozen? ⟨g, (j + 1) * 6 + 3, none⟩ = false := ⟨_, d3⟩
         obtain ⟨u4, d4, f4⟩ : ∃ u, wr.cell? ⟨g, (j + 1) * 6 + 4, none⟩ = some u ∧ wr.frozen? ⟨g, (j + 1) * 6 + 4, none⟩ = false := ⟨_, d4⟩
         obtain ⟨u5, d5, f5⟩ : ∃ u, wr.cell? ⟨g, (j + 1) * 6 + 5, none⟩ = some u ∧ wr.frozen? ⟨g, (j + 1) * 6 + 5, none⟩ = false := ⟨_, d5⟩
         have e2 : ((j + 1 : Nat) : Int) - 1 = (j : Int) := by omega
         have hj1 : (j : Int) < ((i + 1 : Nat) : Int) := by omega
         have hj2 : ((j + 1 : Nat) : Int) < ((i + 1 : Nat) : Int) := by omega
         clear hst hh hlen
         generalize pd m j = y at *
         go_wp2_with (fail)
         go_roundg j
         case measure => omega
         case rel => exact ⟨j, y, by omega, by omega, Nat.le_refl _, by go_num, own_set6s HO5.out HB5.out (Nat.le_refl _) (j + 1) (by rw [← HLEN.out]; omega) (by omega) y HST.out⟩
       · obtain rfl : j = k := by omega
         have hjkz : ¬ (j : Int) < (j : Int) := by omega
         obtain ⟨_, _, hh⟩ := holds_of_own HO5.out hlen
         have hN : Prs wr (some ⟨GA, OA, none⟩) l := HN.out.next HB5.out
         have HLEN := Lib.hid hlen
         obtain ⟨u0, d0, f0⟩ : ∃ u, wr.cell? ⟨g, j * 6, none⟩ = some u ∧ wr.frozen? ⟨g, j * 6, none⟩ = false := ⟨_, by have := holds_cell hh (i := j) (j := 0) (by omega) rfl; rwa [Nat.add_zero] at this⟩
         obtain ⟨u1, d1, f1⟩ : ∃ u, wr.cell? ⟨g, j * 6 + 1, none⟩ = some u ∧ wr.frozen? ⟨g, j * 6 + 1, none⟩ = false := ⟨_, holds_cell hh (i := j) (j := 1) (by omega) rfl⟩
         obtain ⟨u2, d2, f2⟩ : ∃ u, wr.cell? ⟨g, j * 6 + 2, none⟩ = some u ∧ wr.frozen? ⟨g, j * 6 + 2, none⟩ = false := ⟨_, holds_cell hh (i := j) (j := 2) (by omega) rfl⟩
         obtain ⟨u3, d3, f3⟩ : ∃ u, wr.cell? ⟨g, j * 6 + 3, none⟩ = some u ∧ wr.frozen? ⟨g, j * 6 + 3, none⟩ = false := ⟨_, holds_cell hh (i := j) (j := 3) (by omega) rfl⟩
         obtain ⟨u4, d4, f4⟩ : ∃ u, wr.cell? ⟨g, j * 6 + 4, none⟩ = some u ∧ wr.frozen? ⟨g, j * 6 + 4, none⟩ = false := ⟨_, holds_cell hh (i := j) (j := 4) (by omega) rfl⟩
         obtain ⟨u5, d5, f5⟩ : ∃ u, wr.cell? ⟨g, j * 6 + 5, none⟩ = some u ∧ wr.frozen? ⟨g, j * 6 + 5, none⟩ = false := ⟨_, holds_cell hh (i := j) (j := 5) (by omega) rfl⟩
         have b0 := hN.cell (i := i) hlt 0 _ rfl
         have b1 := hN.cell (i := i) hlt 1 _ rfl
         have b2 := hN.cell (i := i) hlt 2 _ rfl
         have b3 := hN.cell (i := i) hlt 3 _ rfl
         have b4 := hN.cell (i := i) hlt 4 _ rfl
         have b5 := hN.cell (i := i) hlt 5 _ rfl
         rw [← HQ.out] at b0 b1 b2 b3 b4 b5
         rw [Nat.add_zero] at b0
         have HST := Lib.hid (set_mid (X := X) (Y := p) m j (by rw [HL.out]; omega))
         have HSR := Lib.hid (sr_mid (l.take i) m p j HM.out (by rw [HL.out]; omega) HD.out HKB.out)
         rw [HQ.out, ← take_snoc l i hlt, ← HQ.out] at HSR
         have hj2 : (j : Int) < ((i + 1 : Nat) : Int) := by omega
         clear hh hlen hN
         go_wp2_with (fail)
         go_roundg (l.length - (i + 1))
         case measure => omega
         case rel => exact ⟨i + 1, by omega, Nat.le_refl _, by go_num, own_set6s HO5.out HB5.out (Nat.le_refl _) j (by rw [← HLEN.out]; omega) (by omega) p (HST.out.trans HSR.out)⟩
  · obtain rfl : i = l.length := by omega
    have hltz : ¬ (l.length : Int) < (l.length : Int) := by omega
    obtain ⟨A1, c1, hsl, _⟩ := slice_of HO.out
    subst hsl
    have HO' := HO.out
    rw [List.take_length] at HO'
    have HO2 := Lib.hid HO'
    clear HO HO'
    go_wp2_with (fail)
    go_ret
    exact ⟨_, rfl, HO2.out, HB.out⟩
end Go.Proofs.Ytamhfjlffacakaa.Pr

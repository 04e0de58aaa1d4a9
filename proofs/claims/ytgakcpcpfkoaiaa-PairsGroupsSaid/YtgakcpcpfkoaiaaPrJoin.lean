/-
  PairsJoin, walked.
-/
import Derived.Test.YtgakcpcpfkoaiaaPrLaw
namespace Go.Proofs.Ytgakcpcpfkoaiaa.Pr
open Go.ChangeShapes Go.WideShapes Go.ChangeAt Go.RowKit Go.Sort Go.Proofs Go.Proofs.Ytgakcpcpfkoaiaa.Ov Go.Proofs.Ytgakcpcpfkoaiaa.Va Go.Proofs.Ytgakcpcpfkoaiaa.St

/-- append(own, list...): nil, or not. -/
theorem wp_append_part {w : World} {ops : Array Oper} {rest : List Oper} {o : Oper} {a : Act} {Q : Exit → Act → World → Prop} (hgd : o.guard = none) (s x : Operand)
    (ho : o.op = .call { callee := .builtin .append, args := #[s, x], argTypes := #[22, 22] }) (base : Nat) (v : Value) (l : List Pr) (hs : a.eval s = v) (hown : w.ownsRow base 44 6 v l.length (pcells l))
    (q : Part) (hq : PIn w q) (hx : a.eval x = pv q) (h63 : l.length + q.2.2.length ≤ 1000000) (hbase : base ≤ w.heap.size)
    (h : ∀ v' w', w'.ownsRow base 44 6 v' (l ++ q.2.2).length (pcells (l ++ q.2.2)) → w.grownBy w' v.ownBlock → wpList Try.prog ops Q rest (a.put o.dst v') w') : wpList Try.prog ops Q (o :: rest) a w := by
  obtain ⟨i0, hi0, hi1, hi2, hi3⟩ := info_parts infoP
  obtain ⟨A, c, m⟩ := q
  dsimp only at h h63
  cases A with
  | none =>
    obtain ⟨e1, e2⟩ := hq.2 rfl
    dsimp only at e1 e2
    subst e1; subst e2
    refine wpList_append_own_none hgd s x 22 ho base 44 i0 6 Try.underlying22 hi0 v l.length (pcells l) hs hown hx (h v w ?_ ⟨rfl, rfl, rfl, Nat.le_refl _, fun _ _ _ => rfl⟩)
    rw [List.append_nil]; exact hown
  | some ad =>
    refine wpList_append_own w hgd s x 22 ho base 44 i0 (.agg (pcl pz).toArray) 6 64 Try.underlying22 hi0 hi1 hi2 hi3 rfl (by decide) v l.length (pcells l) hs hown ad m.length c (pcells m) hx (pcells_len m) ?_ (pcells_one m) (by unfold maxLen; omega) (by omega) hbase ?_
    · intro t u ht
      have hlt' : t < m.length * 6 := by have := (List.getElem?_eq_some_iff.1 ht).1; rwa [pcells_len] at this
      obtain ⟨G, O', e, hcc⟩ := hq.1 (show 0 < m.length by omega)
      dsimp only at e hcc
      obtain rfl := Option.some.inj e
      have e1 : t = t / 6 * 6 + t % 6 := by omega
      rw [e1, pcells_at m _ _ (by omega) (Nat.mod_lt _ (by omega))] at ht
      have := hcc (t / 6) (t % 6) u (by omega) ht
      rw [Addr.add_lit, e1, ← Nat.add_assoc]
      exact this
    · intro v' w' h1 h2 _
      refine h v' w' ?_ h2
      rw [List.length_append, pcells_append]; exact h1
theorem own_pin {w : World} {base : Nat} {v : Value} {l : List Pr} (h : w.ownsRow base 44 6 v l.length (pcells l)) : ∃ A c, v = .slice A l.length c ∧ PIn w (A, c, l) := by
  obtain ⟨A, c, rfl, hn⟩ := slice_of h
  rcases h.2 with ⟨e1, e2⟩ | ⟨g, cap, cur, e1, hg, _⟩
  · injection e1 with e1 _ e3
    subst e1; subst e3
    obtain rfl : l = [] := List.length_eq_zero_iff.1 e2
    exact ⟨none, 0, rfl, Prs.nil _ _, fun _ => ⟨rfl, rfl⟩⟩
  · injection e1 with e1 _ e3
    subst e1; subst e3
    obtain ⟨h1, h2, h3⟩ := holds_of_own (l := l) h rfl
    exact ⟨_, c, rfl, OwnL.prs (B := base) (.inr ⟨g, rfl, h1, h2, h3⟩), fun h => nomatch h⟩
/-- A list of lists laid just now. -/
theorem lls_made (w : World) (qs : List Part) (t : TypeId) (h : ∀ i, i < qs.length → PIn w (qs[i]?.getD default)) : Lls (w.alloc (.cells (qs.map pv).toArray t)) (some ⟨w.heap.size, 0, none⟩) qs :=
  ⟨w.heap.size, 0, rfl, fun i hi => by
    have := (Blk.made w t (qs.map pv) rfl).c i (pv (qs[i]?.getD default)) (by simp [hi])
    rwa [Nat.zero_add], fun i hi => (h i hi).next (box1 w _)⟩
theorem join_of (qs : List Part) (w : World) (L : List Pr) (hq : qs.length ≤ 1000) (e : al qs qs.length = L) (h : ∀ i, i < qs.length → PIn w (qs[i]?.getD default)) (hT : L.length ≤ 1000000) (hX : Tx L) (t : TypeId) :
    Calls Try.prog 15 #[.slice (some ⟨w.heap.size, 0, none⟩) qs.length qs.length] (w.alloc (.cells (qs.map pv).toArray t)) (JoinQ (w.alloc (.cells (qs.map pv).toArray t)) (sr L)) := by
  subst e
  exact join_any _ _ qs _ (lls_made w qs t h) hq hT hX
set_option maxRecDepth 100000 in
set_option maxHeartbeats 4000000 in
theorem join_core (A0 : Option Addr) (c0 : Nat) (la : List Pr) (A1 : Option Addr) (c1 : Nat) (lb : List Pr) (A2 : Option Addr) (c2 : Nat) (lc : List Pr) (w : World) (ha : PIn w (A0, c0, la)) (hb : PIn w (A1, c1, lb)) (hc : PIn w (A2, c2, lc)) :
    Calls Try.prog 5 #[.slice A0 la.length c0, .slice A1 lb.length c1, .slice A2 lc.length c2] w (Gives (.bool true) w) := by
  have HA := Lib.hid ha; have HBB := Lib.hid hb; have HC := Lib.hid hc
  clear ha hb hc
  go_enter Try.func5, Try.ntmps5
  go_wp2_with (fail)
  refine (awake_any _).mono ?_
  rintro e a1 ⟨rfl, hb⟩
  have HB := Lib.hid hb; clear hb
  have hsm := small_any A0 c0 la a1 ((HA.out.next HB.out).1)
  go_wp2_with (fail)
  refine hsm.mono ?_
  rintro e a2 ⟨q, rfl, hb, hq⟩
  replace HB := Lib.hid (Below.next HB.out hb); clear hb hsm
  rcases hq with rfl | ⟨rfl, hla, hxa⟩
  · go_wp2_with (fail)
    refine (awake_any _).mono ?_
    rintro e u1 ⟨rfl, hb⟩
    replace HB := Lib.hid (Below.next HB.out hb); clear hb
    go_wp2_with (fail)
    go_ret
    exact ⟨rfl, HB.out⟩
  have HXA := Lib.hid hxa; clear hxa
  have hsm := small_any A1 c1 lb a2 ((HBB.out.next HB.out).1)
  go_wp2_with (fail)
  refine hsm.mono ?_
  rintro e a3 ⟨q, rfl, hb, hq⟩
  replace HB := Lib.hid (Below.next HB.out hb); clear hb hsm
  rcases hq with rfl | ⟨rfl, hlb, hxb⟩
  · go_wp2_with (fail)
    refine (awake_any _).mono ?_
    rintro e u1 ⟨rfl, hb⟩
    replace HB := Lib.hid (Below.next HB.out hb); clear hb
    go_wp2_with (fail)
    go_ret
    exact ⟨rfl, HB.out⟩
  have HXB := Lib.hid hxb; clear hxb
  have hsm := small_any A2 c2 lc a3 ((HC.out.next HB.out).1)
  go_wp2_with (fail)
  refine hsm.mono ?_
  rintro e a4 ⟨q, rfl, hb, hq⟩
  replace HB := Lib.hid (Below.next HB.out hb); clear hb hsm
  rcases hq with rfl | ⟨rfl, hlc, hxc⟩
  · go_wp2_with (fail)
    refine (awake_any _).mono ?_
    rintro e u1 ⟨rfl, hb⟩
    replace HB := Lib.hid (Below.next HB.out hb); clear hb
    go_wp2_with (fail)
    go_ret
    exact ⟨rfl, HB.out⟩
  have HXC := Lib.hid hxc; clear hxc
  have HTA : Hid (Tx la) := fun p hp => by have := HXA.out p hp; omega
  have HTB : Hid (Tx lb) := fun p hp => by have := HXB.out p hp; omega
  have HTC : Hid (Tx lc) := fun p hp => by have := HXC.out p hp; omega
  clear HXA HXB HXC
  have HTT : Hid (Tx (la ++ lb ++ lc)) := fun p hp => by
    rcases List.mem_append.1 hp with hp | hp
    · rcases List.mem_append.1 hp with hp | hp
      · exact HTA.out p hp
      · exact HTB.out p hp
    · exact HTC.out p hp
  -- all
  go_wp2_with (at_builtin; refine wp_append_part rfl _ _ rfl w.heap.size _ [] rfl ⟨rfl, .inl ⟨rfl, rfl⟩⟩ (A0, c0, la) (HA.out.next HB.out) rfl (by simp; omega) HB.out.size ?_)
  intro v1 b1 hown hg
  have HO := Lib.hid hown
  replace HB := Lib.hid (HB.out.grown hg HB.out.size (fun k e => nomatch e))
  clear hown hg
  go_wp2_with (at_builtin; refine wp_append_part rfl _ _ rfl w.heap.size _ la rfl HO.out (A1, c1, lb) (HBB.out.next HB.out) rfl (by simp; omega) HB.out.size ?_)
  intro v2 b2 hown hg
  replace HB := Lib.hid (HB.out.grown hg HB.out.size (fun g e => (HO.out.lt g e).1))
  replace HO : Hid (b2.ownsRow w.heap.size 44 6 v2 (la ++ lb).length (pcells (la ++ lb))) := by
    show World.ownsRow _ _ _ _ _ _ _
    rw [List.length_append]; exact hown
  clear hown hg
  go_wp2_with (at_builtin; refine wp_append_part rfl _ _ rfl w.heap.size _ (la ++ lb) rfl HO.out (A2, c2, lc) (HC.out.next HB.out) rfl (by simp; omega) HB.out.size ?_)
  intro v3 b3 hown hg
  replace HB := Lib.hid (HB.out.grown hg HB.out.size (fun g e => (HO.out.lt g e).1))
  clear HO hg
  replace hown : b3.ownsRow w.heap.size 44 6 v3 (la ++ lb ++ lc).length (pcells (la ++ lb ++ lc)) := by
    rw [List.length_append, List.length_append]; first | exact hown | (rw [List.append_assoc]; exact hown) | (rw [List.append_assoc, Nat.add_assoc]; exact hown)
  obtain ⟨A4, c4, rfl, hp4⟩ := own_pin hown
  have H4 := Lib.hid hp4
  clear hown hp4
  have HN : Hid ((la ++ lb ++ lc).length ≤ 300) := by show _ ≤ _; rw [List.length_append, List.length_append]; omega
  have HOD := Lib.hid (sr_od (la ++ lb ++ lc))
  have HSELF := Lib.hid (fun h : Od (la ++ lb ++ lc) => sr_self (la ++ lb ++ lc) h)
  have HZ := Lib.hid (sr_len (la ++ lb ++ lc))
  have HJ3 := Lib.hid (sr_join3 la lb lc)
  have HJ2 := Lib.hid (sr_join2 la lb lc)
  generalize la ++ lb ++ lc = N at *
  have hN := HN.out
  -- Sort(all)
  have hs := sort_any A4 c4 N b3 H4.out (by have := HN.out; omega) HTT.out
  go_wp2_with (fail)
  refine hs.mono ?_
  rintro e d1 ⟨A5, c5, rfl, ho, hn, _, hb⟩
  have H5 := Lib.hid (show PIn d1 (A5, c5, sr N) from ⟨ho.prs, hn⟩)
  replace H4 := Lib.hid (H4.out.next hb)
  replace HB := Lib.hid (Below.next HB.out hb); clear hb hs ho hn
  -- Sort(a), Sort(b), Sort(c)
  have hs := sort_any A0 c0 la d1 (HA.out.next HB.out) (by omega) HTA.out
  go_wp2_with (fail)
  refine hs.mono ?_
  rintro e d2 ⟨A6, c6, rfl, ho, hn, _, hb⟩
  have H6 := Lib.hid (show PIn d2 (A6, c6, sr la) from ⟨ho.prs, hn⟩)
  replace H4 := Lib.hid (H4.out.next hb); replace H5 := Lib.hid (H5.out.next hb)
  replace HB := Lib.hid (Below.next HB.out hb); clear hb hs ho hn
  have hs := sort_any A1 c1 lb d2 (HBB.out.next HB.out) (by omega) HTB.out
  go_wp2_with (fail)
  refine hs.mono ?_
  rintro e d3 ⟨A7, c7, rfl, ho, hn, _, hb⟩
  have H7 := Lib.hid (show PIn d3 (A7, c7, sr lb) from ⟨ho.prs, hn⟩)
  replace H4 := Lib.hid (H4.out.next hb); replace H5 := Lib.hid (H5.out.next hb); replace H6 := Lib.hid (H6.out.next hb)
  replace HB := Lib.hid (Below.next HB.out hb); clear hb hs ho hn
  have hs := sort_any A2 c2 lc d3 (HC.out.next HB.out) (by omega) HTC.out
  go_wp2_with (fail)
  refine hs.mono ?_
  rintro e d4 ⟨A8, c8, rfl, ho, hn, _, hb⟩
  have H8 := Lib.hid (show PIn d4 (A8, c8, sr lc) from ⟨ho.prs, hn⟩)
  replace H4 := Lib.hid (H4.out.next hb); replace H5 := Lib.hid (H5.out.next hb); replace H6 := Lib.hid (H6.out.next hb); replace H7 := Lib.hid (H7.out.next hb)
  replace HB := Lib.hid (Below.next HB.out hb); clear hb hs ho hn
  -- Join
  have hj := join_of [(A6, c6, sr la), (A7, c7, sr lb), (A8, c8, sr lc)] d4 (sr la ++ sr lb ++ sr lc) (by simp) (by simp [al]) (fun i hi => by
      have hi' : i < 3 := hi
      match i, hi' with
      | 0, _ => exact H6.out
      | 1, _ => exact H7.out
      | 2, _ => exact H8.out) (by rw [List.length_append, List.length_append, sr_len, sr_len, sr_len]; omega) (fun p hp => by
      rcases List.mem_append.1 hp with hp | hp
      · rcases List.mem_append.1 hp with hp | hp
        · exact HTA.out p ((sr_mem _ _).1 hp)
        · exact HTB.out p ((sr_mem _ _).1 hp)
      · exact HTC.out p ((sr_mem _ _).1 hp)) 22
  rw [HJ3.out] at hj
  have hb1 := box1 d4 (.cells ([(A6, c6, sr la), (A7, c7, sr lb), (A8, c8, sr lc)].map pv).toArray 22)
  replace H4 := Lib.hid (H4.out.next hb1); replace H5 := Lib.hid (H5.out.next hb1)
  replace HB := Lib.hid (Below.next HB.out hb1); clear hb1 H6 H7 H8
  have HJ := Lib.hid hj; clear hj
  go_wp2_with (fail)
  refine HJ.out.mono ?_
  rintro e d5 ⟨A9, c9, rfl, ho, hn, _, hb⟩
  have H9 := Lib.hid (show PIn d5 (A9, c9, sr N) from ⟨ho.prs, hn⟩)
  replace H4 := Lib.hid (H4.out.next hb); replace H5 := Lib.hid (H5.out.next hb)
  replace HB := Lib.hid (Below.next HB.out hb); clear hb ho hn HJ
  -- Join(Join(a, b), c)
  have hj := join_of [(A0, c0, la), (A1, c1, lb)] d5 (la ++ lb) (by simp) (by simp [al]) (fun i hi => by
      have hi' : i < 2 := hi
      match i, hi' with
      | 0, _ => exact HA.out.next HB.out
      | 1, _ => exact HBB.out.next HB.out) (by rw [List.length_append]; omega) (fun p hp => by
      rcases List.mem_append.1 hp with hp | hp
      · exact HTA.out p hp
      · exact HTB.out p hp) 22
  have hb1 := box1 d5 (.cells ([(A0, c0, la), (A1, c1, lb)].map pv).toArray 22)
  replace H4 := Lib.hid (H4.out.next hb1); replace H5 := Lib.hid (H5.out.next hb1); replace H9 := Lib.hid (H9.out.next hb1)
  replace HB := Lib.hid (Below.next HB.out hb1); clear hb1
  have HJ := Lib.hid hj; clear hj
  go_wp2_with (fail)
  refine HJ.out.mono ?_
  rintro e d6 ⟨A10, c10, rfl, ho, hn, _, hb⟩
  have H10 := Lib.hid (show PIn d6 (A10, c10, sr (la ++ lb)) from ⟨ho.prs, hn⟩)
  replace H4 := Lib.hid (H4.out.next hb); replace H5 := Lib.hid (H5.out.next hb); replace H9 := Lib.hid (H9.out.next hb)
  replace HB := Lib.hid (Below.next HB.out hb); clear hb ho hn HJ
  have hj := join_of [(A10, c10, sr (la ++ lb)), (A2, c2, lc)] d6 (sr (la ++ lb) ++ lc) (by simp) (by simp [al]) (fun i hi => by
      have hi' : i < 2 := hi
      match i, hi' with
      | 0, _ => exact H10.out
      | 1, _ => exact HC.out.next HB.out) (by rw [List.length_append, sr_len, List.length_append]; omega) (fun p hp => by
      rcases List.mem_append.1 hp with hp | hp
      · rcases List.mem_append.1 ((sr_mem _ _).1 hp) with hp | hp
        · exact HTA.out p hp
        · exact HTB.out p hp
      · exact HTC.out p hp) 22
  rw [HJ2.out] at hj
  have hb1 := box1 d6 (.cells ([(A10, c10, sr (la ++ lb)), (A2, c2, lc)].map pv).toArray 22)
  replace H4 := Lib.hid (H4.out.next hb1); replace H5 := Lib.hid (H5.out.next hb1); replace H9 := Lib.hid (H9.out.next hb1)
  replace HB := Lib.hid (Below.next HB.out hb1); clear hb1 H10
  have HJ := Lib.hid hj; clear hj
  go_wp2_with (fail)
  refine HJ.out.mono ?_
  rintro e d7 ⟨A11, c11, rfl, ho, hn, _, hb⟩
  have H11 := Lib.hid (show PIn d7 (A11, c11, sr N) from ⟨ho.prs, hn⟩)
  replace H4 := Lib.hid (H4.out.next hb); replace H5 := Lib.hid (H5.out.next hb); replace H9 := Lib.hid (H9.out.next hb)
  replace HB := Lib.hid (Below.next HB.out hb); clear hb ho hn HJ
  clear HTA HTB HTC HTT HA HBB HC HJ2 HJ3
  generalize sr N = X at *
  have hXN : X.length ≤ 300 := by have := HZ.out; omega
  -- the answers
  have hsa := same_pairs X A5 A9 c5 c9 d7 H5.out.1 H9.out.1 (by omega)
  rw [HZ.out] at hsa
  have HS1 := Lib.hid hsa; clear hsa
  rw [HZ.out]
  go_wp2_with (fail)
  refine HS1.out.mono ?_
  rintro e f1 ⟨rfl, hb⟩
  replace H4 := Lib.hid (H4.out.next hb); replace H5 := Lib.hid (H5.out.next hb); replace H11 := Lib.hid (H11.out.next hb)
  replace HB := Lib.hid (Below.next HB.out hb); clear hb HS1 H9
  have hsa := same_pairs X A5 A11 c5 c11 f1 H5.out.1 H11.out.1 (by omega)
  rw [HZ.out] at hsa
  have HS1 := Lib.hid hsa; clear hsa
  go_wp2_with (fail)
  refine HS1.out.mono ?_
  rintro e f2 ⟨rfl, hb⟩
  replace H4 := Lib.hid (H4.out.next hb); replace H5 := Lib.hid (H5.out.next hb)
  replace HB := Lib.hid (Below.next HB.out hb); clear hb HS1 H11
  have hor := ordered_any A5 c5 X f2 H5.out.1 (by omega)
  rw [HZ.out] at hor
  have HS1 := Lib.hid hor; clear hor
  go_wp2_with (fail)
  refine HS1.out.mono ?_
  rintro e f3 ⟨b, rfl, hbo, hb⟩
  obtain rfl : b = true := hbo.2 HOD.out
  replace H4 := Lib.hid (H4.out.next hb); replace H5 := Lib.hid (H5.out.next hb)
  replace HB := Lib.hid (Below.next HB.out hb); clear hb hbo HS1
  have hor := ordered_any A4 c4 N f3 H4.out.1 (by omega)
  have HS1 := Lib.hid hor; clear hor
  go_wp2_with (fail)
  refine HS1.out.mono ?_
  rintro e f4 ⟨b, rfl, hbo, hb⟩
  have HBO := Lib.hid hbo
  replace H4 := Lib.hid (H4.out.next hb); replace H5 := Lib.hid (H5.out.next hb)
  replace HB := Lib.hid (Below.next HB.out hb); clear hb hbo HS1
  cases b with
  | false =>
    go_wp2_with (fail)
    go_ret
    exact ⟨rfl, HB.out⟩
  | true =>
    have hXN2 : X = N := HSELF.out (HBO.out.1 rfl)
    have hsa := same_pairs X A5 A4 c5 c4 f4 H5.out.1 (by have := H4.out.1; dsimp only at this; rwa [← hXN2] at this) (by omega)
    rw [HZ.out] at hsa
    have HS1 := Lib.hid hsa; clear hsa hXN2
    go_wp2_with (fail)
    refine HS1.out.mono ?_
    rintro e f5 ⟨rfl, hb⟩
    replace HB := Lib.hid (Below.next HB.out hb); clear hb HS1
    go_wp2_with (fail)
    go_ret
    exact ⟨rfl, HB.out⟩
end Go.Proofs.Ytgakcpcpfkoaiaa.Pr

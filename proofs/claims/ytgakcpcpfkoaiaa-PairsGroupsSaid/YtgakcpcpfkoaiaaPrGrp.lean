/-
  pairs.groupSize, ownValues.
-/
import Derived.Test.YtgakcpcpfkoaiaaPrRight
import Derived.BigQuiet
namespace Go.Proofs.Ytgakcpcpfkoaiaa.Pr
open Go.ChangeShapes Go.WideShapes Go.ChangeAt Go.RowKit Go.Sort Go.Shelf Go.Proofs Go.Proofs.Ytgakcpcpfkoaiaa.Ov Go.Proofs.Ytgakcpcpfkoaiaa.Va Go.Proofs.Ytgakcpcpfkoaiaa.St

/-- The first k are those of the first's key that stand at the head. -/
def IsG (l : List Pr) (k : Nat) : Prop := 0 < k ∧ k ≤ l.length ∧ (∀ j, j < k → (pd l j).1 = (pd l 0).1) ∧ (k < l.length → (pd l k).1 ≠ (pd l 0).1)
theorem tx_ne {a b : List UInt8} (h : a ≠ b) : ((tx a).toList == (tx b).toList) = false := by
  rw [ByteArray.toList_eq, ByteArray.toList_eq, tx_list, tx_list]
  exact beq_eq_false_iff_ne.2 h
set_option maxRecDepth 100000 in
set_option maxHeartbeats 1000000 in
theorem gs1_any (p : Pr) (k0 : List UInt8) (bx B O n c : Nat) (w : World) (h1 : w.cell? ⟨bx, 0, none⟩ = some (.slice (some ⟨B, O, none⟩) n c)) (h2 : w.cell? ⟨B, O, none⟩ = some (.string (tx k0))) (hn : 0 < n) :
    Calls Try.prog 52 #[.agg (pcl p).toArray, .pointer (some ⟨bx, 0, none⟩)] w (Gives (.bool (!decide (p.1 = k0))) w) := by
  obtain ⟨pk, ⟨vk, vn, vs, vx, vy⟩⟩ := p
  have HB := Lib.hid (box1 w (.cells #[.string (tx pk), .int .i64 vk, .int .i64 vn, .string (tx vs), .int .i64 vx, .int .i64 vy] 44))
  have HP := Lib.hid (box6 w 44 (.string (tx pk)) (.int .i64 vk) (.int .i64 vn) (.string (tx vs)) (.int .i64 vx) (.int .i64 vy))
  have g1 := (HB.out.cell (p := ⟨bx, 0, none⟩) (block_lt_of_cell h1)).trans h1
  have g2 := (HB.out.cell (p := ⟨B, O, none⟩) (block_lt_of_cell h2)).trans h2
  clear h1 h2
  have hnz : (0 : Int) < (n : Int) := by omega
  unfold pcl
  dsimp only
  obtain ⟨r, hr⟩ : ∃ r, r = !decide (pk = k0) := ⟨_, rfl⟩
  rw [← hr]
  have HR := Lib.hid hr; clear hr
  go_enter Try.func52, Try.ntmps52
  go_upto_region 1 with fail
  have p0 := HP.out.c 0 _ rfl
  clear HP
  generalize w.alloc (.cells #[.string (tx pk), .int .i64 vk, .int .i64 vn, .string (tx vs), .int .i64 vx, .int .i64 vy] 44) = w1 at *
  by_cases hk : pk = k0
  · subst hk
    have HE := Lib.hid (show r = false by have := HR.out; simpa using this)
    clear HR
    generalize tx pk = s at *
    go_wp2_with (fail)
    go_quiet (fail)
    go_wp2_with (fail)
    go_ret
    exact ⟨by rw [HE.out]; rfl, below_drewN HB.out _⟩
  · have HE := Lib.hid (show r = true by have := HR.out; simpa [hk] using this)
    clear HR
    have hne := tx_ne hk
    generalize tx pk = s at *
    generalize tx k0 = s0 at *
    go_wp2_with (fail)
    go_quiet (fail)
    go_wp2_with (fail)
    go_ret
    exact ⟨by rw [HE.out]; rfl, below_drewN HB.out _⟩
theorem idx_g (l : List Pr) (h0 : 0 < l.length) : ∃ q : Int, Lib.idxBy (fun _ y => !decide (y.1 = (pd l 0).1)) (l.take l.length) default = q ∧ ((q < 0 ∧ IsG l l.length) ∨ (0 ≤ q ∧ IsG l q.toNat ∧ q.toNat < l.length)) := by
  have hg : ∀ j, j < l.length → l[j]! = pd l j := fun j hj => by rw [pd_at hj]; exact getElem!_pos l j hj
  have first : ∀ n, (∀ j, j < n → j < l.length → (pd l j).1 = (pd l 0).1) ∨ ∃ k, k < n ∧ k < l.length ∧ (pd l k).1 ≠ (pd l 0).1 ∧ ∀ j, j < k → (pd l j).1 = (pd l 0).1 := by
    intro n
    induction n with
    | zero => exact .inl fun j hj => absurd hj (Nat.not_lt_zero _)
    | succ n ih =>
      rcases ih with h | ⟨k, h1, h2⟩
      · by_cases hn : n < l.length
        · by_cases he : (pd l n).1 = (pd l 0).1
          · exact .inl fun j hj hjl => by
              rcases Nat.lt_or_ge j n with h1 | h1
              · exact h j h1 hjl
              · obtain rfl : j = n := by omega
                exact he
          · exact .inr ⟨n, by omega, hn, he, fun j hj => h j hj (by omega)⟩
        · exact .inl fun j hj hjl => h j (by omega) hjl
      · exact .inr ⟨k, by omega, h2⟩
  rcases first l.length with h | ⟨k, h1, h2, h3, h4⟩
  · refine ⟨-1, Lib.idxBy_miss _ l l.length default fun j hj => ?_, .inl ⟨by omega, h0, Nat.le_refl _, fun j hj => h j hj hj, fun h => absurd h (Nat.lt_irrefl _)⟩⟩
    simp only [hg j hj, h j hj hj, decide_true, Bool.not_true]
  · have hk0 : 0 < k := by
      rcases Nat.eq_zero_or_pos k with rfl | h
      · exact absurd rfl h3
      · exact h
    refine ⟨(k : Int), Lib.idxBy_hit _ l l.length k default h1 (Nat.le_refl _) ?_ fun j hj => ?_, .inr ⟨by omega, ?_, by omega⟩⟩
    · simp only [hg k h1, decide_eq_false h3, Bool.not_false]
    · simp only [hg j (by omega), h4 j hj, decide_true, Bool.not_true]
    · rw [Int.toNat_natCast]; exact ⟨hk0, by omega, h4, fun _ => h3⟩
set_option maxRecDepth 100000 in
set_option maxHeartbeats 1000000 in
theorem groupSize_any (B O c : Nat) (l : List Pr) (w : World) (h : Prs w (some ⟨B, O, none⟩) l) (h0 : 0 < l.length) (hl : l.length ≤ 1000000) :
    Calls Try.prog 37 #[.slice (some ⟨B, O, none⟩) l.length c] w fun e w' => ∃ k : Nat, e = .returned (.int .i64 k) ∧ IsG l k ∧ Below w.heap.size w w' := by
  have hg : ∀ j, j < l.length → l[j]! = pd l j := fun j hj => by rw [pd_at hj]; exact getElem!_pos l j hj
  obtain ⟨w1, hw1⟩ : ∃ w1, w1 = w.alloc (.cells #[.slice (some ⟨B, O, none⟩) l.length c] 22) := ⟨_, rfl⟩
  have hB : Below w.heap.size w w1 := by rw [hw1]; exact box1 w _
  have hbx : w1.cell? ⟨w.heap.size, 0, none⟩ = some (.slice (some ⟨B, O, none⟩) l.length c) := by rw [hw1]; exact (Blk.made w _ [.slice (some ⟨B, O, none⟩) l.length c] rfl).c 0 _ rfl
  have hp1 := h.next hB
  have hc : ∀ i j v, i < l.length → (pcl (pd l i))[j]? = some v → w1.cell? ⟨B, O + i * 6 + j, none⟩ = some v := fun i j v hi hv => hp1.cell hi j v hv
  have hx := AnyQ.slices_IndexFunc (ρ := cfRen) { cfLays with } 6 (fun w => by kernel_rfl) (fun w => by kernel_rfl) pcl pcl_len (fun p => !decide (p.1 = (pd l 0).1)) 52 #[.pointer (some ⟨w.heap.size, 0, none⟩)] (enters_of Try.func52 (by kernel_rfl) rfl) B O l.length c l w1
      (fun W x hb => (gs1_any x (pd l 0).1 w.heap.size B O l.length c W ((hb.cell (block_lt_of_cell hbx)).trans hbx) (by
        have e := hc 0 0 _ h0 rfl
        rw [Nat.zero_mul, Nat.add_zero] at e
        exact (hb.cell (block_lt_of_cell e)).trans e) h0).mono fun _ _ ⟨he, hb'⟩ => ⟨he, Below.next hb hb'⟩) (Nat.le_refl _) (by omega) (block_lt_of_cell (hc 0 0 _ h0 rfl)) (fun j hj i v hv => hc j i v hj (by rw [← hg j hj]; exact hv))
  obtain ⟨q, hq, hQ⟩ := idx_g l h0
  rw [hq] at hx
  have HX := Lib.hid hx
  have HB := Lib.hid hB
  have HQ := Lib.hid hQ
  clear hx hc hp1 hq hg hB hQ
  have h0z : (0 : Int) < (l.length : Int) := by omega
  go_enter Try.func37, Try.ntmps37
  go_upto_region 1 with fail
  rw [← hw1]
  clear hw1
  go_wp2_with (fail)
  refine HX.out.mono ?_
  rintro e w2 ⟨rfl, hb⟩
  have hbx2 := (hb.cell (p := ⟨w.heap.size, 0, none⟩) (block_lt_of_cell hbx)).trans hbx
  have HB2 := Lib.hid (Below.next HB.out hb)
  clear hb hbx HX HB
  rcases HQ.out with ⟨hq, hG⟩ | ⟨hq, hG, hql⟩
  · have HG := Lib.hid hG
    clear hG HQ
    go_wp2_with (fail)
    go_ret
    exact ⟨l.length, rfl, HG.out, HB2.out⟩
  · have hq2 : ¬ q < 0 := by omega
    have HG := Lib.hid hG
    have HQL := Lib.hid hql
    have HQ0 := Lib.hid hq
    clear hG HQ hql hq
    go_wp2_with (fail)
    go_ret
    exact ⟨q.toNat, by rw [Int.toNat_of_nonneg HQ0.out]; rfl, HG.out, HB2.out⟩
end Go.Proofs.Ytgakcpcpfkoaiaa.Pr

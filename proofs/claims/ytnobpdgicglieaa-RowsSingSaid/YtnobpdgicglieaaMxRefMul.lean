/-
  The document's own product of rows (package stookref02): rows that are appended to.
-/
import Derived.Test.YtnobpdgicglieaaMxRight
import Derived.Deep.AppendLies
import Derived.OwnWalk
import Derived.Deep.Matrix
namespace Go.Proofs.Ytnobpdgicglieaa.Mx
open Go.ChangeShapes Go.WideShapes Go.ChangeAt Go.RowKit Go.Proofs.Ytnobpdgicglieaa.Gf

/-- The cells of m bytes. -/
def bl (m : Nat) (x : Nat → K) : List Value := (List.range m).map fun j => Value.int .u8 ((x j).n : Int)
theorem bl_succ (m : Nat) (x : Nat → K) : bl (m + 1) x = bl m x ++ [.int .u8 ((x m).n : Int)] := by
  unfold bl; rw [List.range_succ, List.map_append]; rfl
theorem own_ne {w : World} {base base' : Nat} {e e' : TypeId} {s s' n n' : Nat} {v v' : Value} {xs xs' : List Value} (h : w.ownsRow base e s v n xs) (k : w.ownsRow base' e' s' v' n' xs') (hne : e ≠ e') : v.ownBlock = none ∨ v.ownBlock ≠ v'.ownBlock := by
  rcases h.2 with ⟨rfl, _⟩ | ⟨g, cap, cur, rfl, _, hh, _⟩
  · exact Or.inl rfl
  · rcases k.2 with ⟨rfl, _⟩ | ⟨g', cap', cur', rfl, _, hh', _⟩
    · exact Or.inr (by simp [Value.ownBlock])
    · refine Or.inr fun e => ?_
      have e1 : g = g' := by simpa [Value.ownBlock] using e
      subst e1
      rw [hh] at hh'
      injection hh' with hh'
      injection hh' with _ ht
      exact hne ht
theorem own_below {w w' : World} {base B : Nat} {e : TypeId} {s n : Nat} {v : Value} {xs : List Value} (h : w.ownsRow base e s v n xs) (k : Below B w w') (hB : w.heap.size ≤ B) : w'.ownsRow base e s v n xs := by
  refine ⟨h.1, ?_⟩
  rcases h.2 with hh | ⟨g, cap, cur, hv, hg, hh, r⟩
  · exact Or.inl hh
  · refine Or.inr ⟨g, cap, cur, hv, hg, ?_, r⟩
    have : g < w.heap.size := (Array.getElem?_eq_some_iff.1 hh).1
    rw [k.block g (by omega)]; exact hh
theorem own_mono {w : World} {base base' : Nat} {e : TypeId} {s n : Nat} {v : Value} {xs : List Value} (h : w.ownsRow base e s v n xs) (hb : base' ≤ base) : w.ownsRow base' e s v n xs := by
  refine ⟨h.1, ?_⟩
  rcases h.2 with hh | ⟨g, cap, cur, hv, hg, r⟩
  · exact Or.inl hh
  · exact Or.inr ⟨g, cap, cur, hv, Nat.le_trans hb hg, r⟩
/-- k rows of m bytes each are appended. -/
structure Outs (w wr : World) (m k : Nat) (z : Nat → Nat → K) (R : Nat → Value) (v : Value) : Prop where
  top : wr.ownsRow w.heap.size 37 1 v k ((List.range k).map R)
  row : ∀ i, i < k → wr.ownsRow w.heap.size 5 1 (R i) m (bl m (z i))
  below : Below w.heap.size w wr
section
variable {w wr w' : World} {m k n : Nat} {z : Nat → Nat → K} {R : Nat → Value} {v : Value}
theorem Outs.next (h : Outs w wr m k z R v) (b : Below wr.heap.size wr w') : Outs w w' m k z R v :=
  ⟨own_below h.top b (Nat.le_refl _), fun i hi => own_below (h.row i hi) b (Nat.le_refl _), Below.next h.below b⟩
/-- One row more. -/
theorem Outs.push (h : Outs w wr m k z R v) {u v' : Value} (hu : wr.ownsRow w.heap.size 5 1 u m (bl m (z k))) (ht : w'.ownsRow w.heap.size 37 1 v' (k + 1) ((List.range k).map R ++ [u])) (hg : wr.grownBy w' v.ownBlock) :
    Outs w w' m (k + 1) z (fun i => if i < k then R i else u) v' := by
  refine ⟨?_, fun i hi => ?_, h.below.grown hg h.below.size (fun g e => (h.top.lt g e).1)⟩
  · rw [List.range_succ, List.map_append, List.map_cons, List.map_nil, if_neg (Nat.lt_irrefl k)]
    rw [List.map_congr_left (g := R) (fun i hi => if_pos (List.mem_range.1 hi))]
    exact ht
  · show w'.ownsRow _ _ _ (if i < k then R i else u) _ _
    by_cases e : i < k
    · rw [if_pos e]; exact (h.row i e).kept hg (own_ne (h.row i e) h.top (by decide))
    · rw [if_neg e]
      obtain rfl : i = k := by omega
      exact hu.kept hg (own_ne hu h.top (by decide))
theorem bl_get (m j : Nat) (x : Nat → K) (h : j < m) : (bl m x)[j]? = some (.int .u8 ((x j).n : Int)) := by
  unfold bl; rw [List.getElem?_map, List.getElem?_range h]; rfl
theorem Outs.mat (h : Outs w wr m n z R v) (hn : 0 < n) (hm : 0 < m) : ∃ B cap r c, v = .slice (some ⟨B, 0, none⟩) n cap ∧ Mat wr B 0 n m r (fun _ => 0) c z := by
  obtain ⟨B, cap, hv, _, _⟩ := h.top.form hn
  have hr : ∀ i, i < n → ∃ p : Nat × Nat, R i = .slice (some ⟨p.1, 0, none⟩) m p.2 := fun i hi => by
    obtain ⟨g, c, hg, _, _⟩ := (h.row i hi).form hm
    exact ⟨(g, c), hg⟩
  obtain ⟨p, hp⟩ := Go.Deep.choose_lt hr
  subst hv
  refine ⟨B, cap, fun i => (p i).1, fun i => (p i).2, rfl, ⟨fun i hi => ?_, fun i hi j hj => ?_⟩⟩
  · rw [Nat.zero_add, h.top.cellAt i (by omega), List.getElem?_map, List.getElem?_range hi]
    exact congrArg some (hp i hi)
  · have hh := h.row i hi
    rw [hp i hi] at hh
    rw [Nat.zero_add, hh.cellAt j (by omega)]
    exact bl_get m j _ hj
end
/-- What a call that appends rows answers. -/
def MadeA (n m : Nat) (x : Nat → Nat → K) (w : World) (e : Ending) (w' : World) : Prop :=
  ∃ (B cap : Nat) (r c : Nat → Nat), e = .returned (.slice (some ⟨B, 0, none⟩) n cap) ∧ Mat w' B 0 n m r (fun _ => 0) c x ∧ Below w.heap.size w w'
def RelRo (w : World) (n m : Nat) (z : Nat → Nat → K) (V I : Value) (wr : World) : Prop := ∃ (k : Nat) (R : Nat → Value), k ≤ n ∧ I = .int .i64 (k : Int) ∧ Outs w wr m k z R V
def RelRm (wr : World) (m : Nat) (z : Nat → K) (U I : Value) (wi : World) : Prop := ∃ j : Nat, j ≤ m ∧ I = .int .i64 (j : Int) ∧ wi.ownsRow wr.heap.size 5 1 U j (bl j z) ∧ Below wr.heap.size wr wi
def RelRi (wi : World) (l : Nat) (f : Nat → K) (N I : Value) (wt : World) : Prop := ∃ (t q : Nat), t ≤ l ∧ I = .int .i64 (t : Int) ∧ N = .int .i64 ((S t f).n : Int) ∧ wt = wi.drewN q
theorem refmul_same (a b : Nat) (ha : a < 256) (hb : b < 256) (w : World) :
    Calls Try.prog 34 #[.int .i64 (a : Int), .int .i64 (b : Int)] w fun e w' => e = .returned (.int .i64 (gm a b : Nat)) ∧ w' = w :=
  (refmul_any a b ha hb w).mono fun _ _ ⟨he, hw⟩ => ⟨he, hw.symm⟩
theorem own_drewN {w : World} {base : Nat} {e : TypeId} {s n : Nat} {v : Value} {xs : List Value} (h : w.ownsRow base e s v n xs) (q : Nat) : (w.drewN q).ownsRow base e s v n xs := h
set_option maxRecDepth 100000 in
set_option maxHeartbeats 2000000 in
theorem refmm_any (P O n l m cn P' O' cl : Nat) (b o c b' o' c' : Nat → Nat) (x y : Nat → Nat → K) (w : World) (hn : 1 ≤ n) (hn' : n ≤ 64) (hl : 1 ≤ l) (hl' : l ≤ 64) (hm : 1 ≤ m) (hm' : m ≤ 64)
    (hM : Mat w P O n l b o c x) (hM' : Mat w P' O' l m b' o' c' y) :
    Calls Try.prog 23 #[.slice (some ⟨P, O, none⟩) n cn, .slice (some ⟨P', O', none⟩) l cl] w (MadeA n m (mm l x y) w) := by
  have HM := Lib.hid hM; have HM' := Lib.hid hM'; clear hM hM'
  obtain ⟨i8, hi8, hz8, hs8, hb8⟩ := info_parts info8
  obtain ⟨iR, hiR, hzR, hsR, hbR⟩ := info_parts infoR
  have l0 : (0 : Int) < (l : Int) := by omega
  have HI8 := Lib.hid hi8; have HZ8 := Lib.hid hz8; have HS8 := Lib.hid hs8; have HB8 := Lib.hid hb8
  have HIR := Lib.hid hiR; have HZR := Lib.hid hzR; have HSR := Lib.hid hsR; have HBR := Lib.hid hbR
  clear hi8 hz8 hs8 hb8 hiR hzR hsR hbR
  go_enter Try.func23, Try.ntmps23
  go_wp2_with fail
  go_loopw [5, 6] (fun V I wr => RelRo w n m (mm l x y) V I wr) (fun _ I _ => n - (intOf I).toNat)
  case atStart => exact ⟨0, fun _ => .slice none 0 0, by omega, rfl, ⟨World.ownsRow_nil _ _ _ _, fun i hi => by omega, Below.refl _ _⟩⟩
  case round =>
    obtain ⟨k, R, hk, rfl, hO⟩ := hrel
    have HO := Lib.hid hO; clear hO
    by_cases hlt : k < n
    · have k0 : (k : Int) < (n : Int) := by omega
      go_wp2_with fail
      generalize wr = wo at *
      go_loopw [7, 8] (fun U I wi => RelRm wo m (mm l x y k) U I wi) (fun _ I _ => m - (intOf I).toNat)
      case atStart => exact ⟨0, by omega, rfl, World.ownsRow_nil _ _ _ _, Below.refl _ _⟩
      case round =>
        obtain ⟨j, hj, rfl, hU, hB⟩ := hrel
        have HU := Lib.hid hU; have HB := Lib.hid hB; clear hU hB
        generalize wr = wi at *
        have HBw := Lib.hid (Below.next HO.out.below HB.out)
        have cb0 := (HM'.out.below HBw.out).top0 (by omega)
        by_cases hll : j < m
        · have j0 : (j : Int) < (m : Int) := by omega
          go_wp2_with fail
          go_loopw [9, 10] (fun N I wt => RelRi wi l (fun t => x k t * y t j) N I wt) (fun _ I _ => l - (intOf I).toNat)
          case atStart => exact ⟨0, 0, by omega, rfl, rfl, rfl⟩
          case round =>
            obtain ⟨t, q, ht, rfl, rfl, hw⟩ := hrel
            have HMx := Lib.hid ((HM.out.below HBw.out).drewN q)
            have HMy := Lib.hid ((HM'.out.below HBw.out).drewN q)
            have HW := Lib.hid hw
            rw [← hw] at HMx HMy
            clear hw
            by_cases htl : t < l
            · have t0 : (t : Int) < (l : Int) := by omega
              have ca := HMx.out.top k hlt
              have cra := HMx.out.row k hlt t htl
              have cb := HMy.out.top t htl
              have crb := HMy.out.row t htl j hll
              have HS : Hid ((S (t + 1) (fun t => x k t * y t j)).n = (S t (fun t => x k t * y t j)).n ^^^ gm (x k t).n (y t j).n) := rfl
              have ls := (S t (fun t => x k t * y t j)).h
              have lx := (x k t).h
              have ly := (y t j).h
              have lg := gm_lt (x k t).n (y t j).n
              generalize (S t (fun t => x k t * y t j)).n = s at *
              generalize (x k t).n = u at *
              generalize (y t j).n = v at *
              have HX := Lib.hid (i64_xor s (gm u v) (by omega) (by omega))
              clear cb0
              go_wp2_with fail
              go_quiet ((go_at_call 34; exact Calls.quiet_of_same (refmul_same u v lx ly _)))
              go_wp2
              go_roundw
              case rel => exact ⟨t + 1, _, by omega, by go_num, by rw [HS.out, HX.out], by rw [HW.out, World.drewN_drewN]⟩
              case measure => simp [intOf]; omega
            · obtain rfl : t = l := by omega
              have ls := (S t (fun s => x k s * y s j)).h
              have e8 := u8_of (S t (fun s => x k s * y s j)).n (by omega)
              have HE : Hid ((mm t x y k j).n = (S t (fun s => x k s * y s j)).n) := rfl
              have HU2 : Hid (wr.ownsRow wo.heap.size 5 1 u7 j (bl j (mm t x y k))) := by rw [HW.out]; exact HU.out
              have HB2 : Hid (Below wo.heap.size wo wr) := by rw [HW.out]; exact below_drewN HB.out q
              generalize (S t (fun s => x k s * y s j)).n = s at *
              clear cb0
              go_wp2_with (at_builtin; refine wpList_append_own _ rfl _ _ 37 rfl wo.heap.size 5 i8 (.int .u8 0) 1 1 Try.underlying37 HI8.out HZ8.out HS8.out HB8.out rfl (by decide) _ _ _ rfl (HU2.out.alloc _) ⟨wr.heap.size, 0, none⟩ 1 1 [.int .u8 (s : Int)] rfl rfl ?c1 ?c2 ?c3 ?c4 ?c5 ?_)
              case c1 =>
                intro a u ha
                match a, ha with
                | 0, ha => simp at ha; subst ha; simp [Addr.add]
              case c2 => intro u hu; simp at hu; subst hu; rfl
              case c3 => unfold maxLen; omega
              case c4 => omega
              case c5 => have := HB2.out.size; simp; omega
              intro v' w1 hown' hgrow _
              have HN : Hid (w1.ownsRow wo.heap.size 5 1 v' (j + 1) (bl (j + 1) (mm t x y k))) := by
                show World.ownsRow _ _ _ _ _ _ _
                rw [bl_succ, HE.out]; exact hown'
              have HB3 : Hid (Below wo.heap.size wo w1) := (HB2.out.alloc HB2.out.size _).grown hgrow (by have := HB2.out.size; simp; omega) (fun g e => (HU2.out.lt g e).1)
              clear hown' hgrow
              go_wp2
              go_roundw
              case rel => exact ⟨j + 1, by omega, by go_num, HN.out, HB3.out⟩
              case measure => simp [intOf]; omega
        · obtain rfl : j = m := by omega
          have HO2 := Lib.hid (HO.out.next HB.out)
          have HU2 : Hid (wi.ownsRow w.heap.size 5 1 u7 j (bl j (mm l x y k))) := own_mono HU.out HO.out.below.size
          obtain ⟨g, cap, hv, _, _⟩ := HU.out.form (by omega)
          subst hv
          go_wp2_with (at_builtin; refine wpList_append_own _ rfl _ _ 22 rfl w.heap.size 37 iR (.slice none 0 0) 1 24 Try.underlying22 HIR.out HZR.out HSR.out HBR.out rfl (by decide) _ _ _ rfl (HO2.out.top.alloc _) ⟨wi.heap.size, 0, none⟩ 1 1 [.slice (some ⟨g, 0, none⟩) j cap] rfl rfl ?c1 ?c2 ?c3 ?c4 ?c5 ?_)
          case c1 =>
            intro a u ha
            match a, ha with
            | 0, ha => simp at ha; subst ha; simp [Addr.add]
          case c2 => intro u hu; simp at hu; subst hu; rfl
          case c3 => unfold maxLen; omega
          case c4 => omega
          case c5 => have := HO2.out.below.size; simp; omega
          intro v' w1 hown' hgrow _
          have HN : Hid (Outs w w1 j (k + 1) (mm l x y) (fun i => if i < k then R i else .slice (some ⟨g, 0, none⟩) j cap) v') :=
            (HO2.out.next ((Below.refl _ _).alloc (Nat.le_refl _) _)).push (HU2.out.alloc _) hown' hgrow
          clear hown' hgrow
          go_wp2
          go_roundw
          case rel => exact ⟨k + 1, _, by omega, by go_num, HN.out⟩
          case measure => simp [intOf]; omega
    · obtain rfl : k = n := by omega
      obtain ⟨B, cap, r, cc, hv, hMt⟩ := HO.out.mat (by omega) (by omega)
      subst hv
      have HMt := Lib.hid hMt; clear hMt
      go_wp2
      go_ret
      exact ⟨B, cap, r, cc, rfl, HMt.out, HO.out.below⟩
end Go.Proofs.Ytnobpdgicglieaa.Mx

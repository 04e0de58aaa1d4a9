/-
  The pieces of texts: Make.
-/
import Derived.Test.YtkgfkchdbbeljaaCdMul
import Derived.Test.YtkgfkchdbbeljaaCdNew
import Derived.Test.YtkgfkchdbbeljaaCdClone
import Derived.Test.YtkgfkchdbbeljaaMxOwn
import Derived.Deep.RegionLaw
namespace Go.Proofs.Ytkgfkchdbbeljaa.Cd
open Go.ChangeShapes Go.WideShapes Go.ChangeAt Go.RowKit Go.Proofs.Ytkgfkchdbbeljaa.Gf Go.Proofs.Ytkgfkchdbbeljaa.Mx

/-- The cells of texts. -/
def sl (n : Nat) (t : Nat → ByteArray) : List Value := (List.range n).map fun i => Value.string (t i)
theorem sl_succ (n : Nat) (t : Nat → ByteArray) : sl (n + 1) t = sl n t ++ [.string (t n)] := by
  unfold sl; rw [List.range_succ, List.map_append]; rfl
theorem sl_get (n : Nat) (t : Nat → ByteArray) (j : Nat) (h : j < n) : (sl n t)[j]? = some (.string (t j)) := by
  unfold sl; rw [List.getElem?_map, List.getElem?_range h]; rfl
theorem sl_len (n : Nat) (t : Nat → ByteArray) : (sl n t).length = n := by simp [sl]
theorem sl_add (n m : Nat) (t : Nat → ByteArray) : sl n t ++ sl m (fun i => t (n + i)) = sl (n + m) t := by
  induction m with
  | zero => simp [sl]
  | succ m ih => rw [sl_succ, ← List.append_assoc, ih, ← Nat.add_assoc, sl_succ]
theorem sl_congr {n : Nat} {t t' : Nat → ByteArray} (h : ∀ i, i < n → t i = t' i) : sl n t = sl n t' :=
  List.map_congr_left fun i hi => by rw [h i (by simpa using hi)]
theorem sl_one {n : Nat} {t : Nat → ByteArray} : ∀ u ∈ sl n t, u.oneCell' = true := by
  intro u hu
  obtain ⟨i, _, rfl⟩ := List.mem_map.1 hu
  rfl
/-- append onto a row of the call's own, as one step of a region that draws. -/
theorem step_own {P : Program} (w : World) {ops : Array Oper} {o : Oper} {a : Act} {K : Act → World → Prop} {Q : Exit → Act → World → Prop} {E : Prop} (hgd : o.guard = none) (s x : Operand) (t : TypeId)
    (ho : o.op = .call { callee := .builtin .append, args := #[s, x], argTypes := #[t, t] })
    (base : Nat) (e : TypeId) (i : TypeInfo) (z : Value) (size bytes : Nat) (ht : P.underlying t = some (.slice e)) (hi : P.info? e = some i) (hz : i.zero = some z)
    (hsize : i.size = size) (hby : i.bytes = bytes) (hzs : z.cells.size = size) (hsz : 0 < size)
    (v : Value) (n : Nat) (xs : List Value) (hs : a.eval s = v) (hown : w.ownsRow base e size v n xs)
    (ad : Addr) (m c : Nat) (news : List Value) (hx : a.eval x = .slice (some ad) m c) (hl : news.length = m * size) (hnews : ∀ j u, news[j]? = some u → w.cell? (ad.add j) = some u) (h1 : ∀ u ∈ news, u.oneCell' = true)
    (h63 : n + m ≤ maxLen) (hbytes : (n + m) * bytes ≤ 140737488355328) (hbase : base ≤ w.heap.size)
    (h : ∀ v' w', w'.ownsRow base e size v' (n + m) (xs ++ news) → w.grownBy w' v.ownBlock → (v' = .slice none 0 0 ↔ v = .slice none 0 0 ∧ m = 0) → K (a.put o.dst v') w') :
    if Region.wanted o (yielded ops a.tmps) = true then Oper.wp P o a w K Q else E := by
  have hw : Region.wanted o (yielded ops a.tmps) = true := by simp [Region.wanted, hgd]
  rw [if_pos hw]
  exact wp_append_own w s x t ho base e i z size bytes ht hi hz hsize hby hzs hsz v n xs hs hown ad m c news hx hl hnews h1 h63 hbytes hbase h
theorem sl_news {w : World} {B n : Nat} {t : Nat → ByteArray} (h : w.rowIs B 9 n (fun i => .string (t i))) : ∀ j u, (sl n t)[j]? = some u → w.cell? ((⟨B, 0, none⟩ : Addr).add j) = some u := by
  intro a u ha
  have hl : a < n := by
    have := (List.getElem?_eq_some_iff.1 ha).1
    rwa [sl_len] at this
  rw [sl_get _ _ a hl] at ha
  injection ha with ha
  subst ha
  have := h.cell hl
  rw [add_plain, Nat.zero_add]
  exact this
/-- n texts and a second result. -/
def MadeS (n : Nat) (t : Nat → ByteArray) (w : World) (e : Ending) (w' : World) : Prop :=
  ∃ (B cap : Nat), e = .returned (.tuple #[.slice (some ⟨B, 0, none⟩) n cap, .int .i64 0]) ∧ n ≤ cap ∧ Strs w' (some ⟨B, 0, none⟩) n t ∧ Below w.heap.size w w'
theorem own_strs {w : World} {base B cap n : Nat} {t : Nat → ByteArray} (h : w.ownsRow base 9 1 (.slice (some ⟨B, 0, none⟩) n cap) n (sl n t)) : Strs w (some ⟨B, 0, none⟩) n t := fun _ =>
  ⟨B, 0, rfl, fun i hi => by rw [Nat.zero_add, h.cellAt i (by omega)]; exact sl_get n t i hi⟩
theorem mat_from {w : World} {B n m : Nat} {b c : Nat → Nat} {x : Nat → Nat → K} (h : Mat w B 0 n m b (fun _ => 0) c x) (k q : Nat) (hq : k + q ≤ n) : Mat w B k q m (fun i => b (k + i)) (fun _ => 0) (fun i => c (k + i)) (fun i j => x (k + i) j) :=
  ⟨fun i hi => by have := h.top (k + i) (by omega); rwa [Nat.zero_add] at this, fun i hi j hj => h.row (k + i) (by omega) j hj⟩
theorem mat_none {w : World} {B O m : Nat} {b o c : Nat → Nat} {x : Nat → Nat → K} : Mat w B O 0 m b o c x := ⟨fun i hi => by omega, fun i hi => by omega⟩
theorem own_made {w w' : World} {k n m : Nat} {x : Nat → Nat → K} {t : Nat → ByteArray} {v : Value} (h : w'.ownsRow w.heap.size 9 1 v n (sl k t ++ sl (n - k) (pc k m (fun i j => x (k + i) j) t))) (hb : Below w.heap.size w w') (hx : Cod k n x) (hk : k ≤ n) (h1 : 1 ≤ k) (hs : ∀ j, j < k → (t j).size = m) :
    ∃ B cap, v = .slice (some ⟨B, 0, none⟩) n cap ∧ n ≤ cap ∧ Strs w' (some ⟨B, 0, none⟩) n (pc k m x t) ∧ Below w.heap.size w w' := by
  have e : sl k t ++ sl (n - k) (pc k m (fun i j => x (k + i) j) t) = sl n (pc k m x t) := by
    have e1 : sl k t = sl k (pc k m x t) := sl_congr fun i hi => (hx.first hk hi (hs i hi)).symm
    have e2 : sl (n - k) (pc k m (fun i j => x (k + i) j) t) = sl (n - k) (fun i => pc k m x t (k + i)) := rfl
    rw [e1, e2, sl_add, show k + (n - k) = n from by omega]
  rw [e] at h
  rcases h.2 with ⟨_, h0⟩ | ⟨g, cap, cur, rfl, _, _, hc, _⟩
  · omega
  · exact ⟨g, cap, rfl, hc, own_strs h, hb⟩
set_option maxHeartbeats 400000 in
theorem make_nil (p : Option Addr) (m cm : Nat) (w : World) :
    Calls Try.prog 10 #[.pointer none, .slice p m cm] w fun e w' => e = .returned (.tuple #[.slice none 0 0, .int .i64 1]) ∧ w' = w := by
  go_enter Try.func10, Try.ntmps10
  go_wp2_with fail
  go_ret2
  exact ⟨rfl, rfl⟩
set_option maxHeartbeats 400000 in
theorem make_no (c k n fb TB : Nat) (r : Nat → Nat) (x : Nat → Nat → K) (p : Option Addr) (m cm : Nat) (t : Nat → ByteArray) (w : World) (hm : m ≤ 4294967296) (hC : IsC w c k n fb TB r x) (hS : Strs w p m t) (h : m ≠ k ∨ ¬ Ev m t) :
    Calls Try.prog 10 #[.pointer (some ⟨c, 0, none⟩), .slice p m cm] w fun e w' => e = .returned (.tuple #[.slice none 0 0, .int .i64 1]) ∧ w' = w := by
  have ck := hC.ck
  have HS := Lib.hid hS
  clear hC hS
  by_cases hk : m = k
  · have H : Hid (¬ Ev m t) := by rcases h with h | h; exact absurd hk h; exact h
    have t1 : ((m : Int) != (k : Int)) = false := by simp [hk]
    have t1' : (m != k) = false := by simp [hk]
    clear h hk
    go_enter Try.func10, Try.ntmps10
    go_wp2_with fail
    refine (same_no p m cm t _ hm HS.out H.out).mono ?_
    rintro e w' ⟨rfl, rfl⟩
    go_wp2_with fail
    go_ret2
    exact ⟨rfl, rfl⟩
  · have t1 : ((m : Int) != (k : Int)) = true := by simp; omega
    have t1' : (m != k) = true := by simp [hk]
    clear h hk
    go_enter Try.func10, Try.ntmps10
    go_wp2_with fail
    go_ret2
    exact ⟨rfl, rfl⟩
def RelMk (w : World) (k : Nat) (t : Nat → ByteArray) (V I : Value) (wr : World) : Prop := ∃ j : Nat, j ≤ k ∧ I = .int .i64 (j : Int) ∧ wr.ownsRow w.heap.size 9 1 V j (sl j t) ∧ Below w.heap.size w wr
set_option maxRecDepth 100000 in
set_option maxHeartbeats 1000000 in
theorem make_yes (c k n fb TB : Nat) (r : Nat → Nat) (x : Nat → Nat → K) (B O ck m : Nat) (t : Nat → ByteArray) (w : World) (hC : IsC w c k n fb TB r x) (hS : Strs w (some ⟨B, O, none⟩) k t) (hs : ∀ j, j < k → (t j).size = m) (hm : m ≤ 4096) :
    Calls Try.prog 10 #[.pointer (some ⟨c, 0, none⟩), .slice (some ⟨B, O, none⟩) k ck] w (MadeS n (pc k m x t) w) := by
  have cck := hC.ck
  have ccn := hC.cn
  have HC := Lib.hid hC; have HS := Lib.hid hS; have HZ := Lib.hid hs
  have hk1 := hC.k1; have hkn := hC.kn; have hn16 := hC.n16
  clear hC hS hs
  obtain ⟨iS, hiS, hzS, hsS, hbS⟩ := info_parts infoS
  obtain ⟨w1, hmk, hown, hgr⟩ := run_make_own (P := Try.prog) w w.heap.size 22 9 iS (.string ⟨#[]⟩) 1 Try.underlying22 hiS hzS hsS .i64 .i64 n (by rw [hbS]; omega) (by unfold maxLen; omega) (Nat.le_refl _)
  have HIS := Lib.hid hiS; have HZS := Lib.hid hzS; have HSS := Lib.hid hsS; have HBS := Lib.hid hbS
  have HO := Lib.hid hown; have HB := Lib.hid ((Below.refl w.heap.size w).grown hgr (Nat.le_refl _) (by simp))
  clear hiS hzS hsS hbS hown hgr
  have t1 : ((k : Int) != (k : Int)) = false := by simp
  have t1' : (k != k) = false := by simp
  have cck1 := (HC.out.below HB.out).ck
  go_enter Try.func10, Try.ntmps10
  go_wp2_with fail
  refine (same_yes _ k ck t _ (by omega) HS.out (fun i hi => by rw [HZ.out i hi, HZ.out 0 (by omega)])).mono ?_
  rintro e w' ⟨rfl, hw'⟩
  obtain rfl : w = w' := hw'.symm
  go_wp2_with fail
  clear hmk t1 t1'
  go_loopw [6, 33] (fun V I wr => RelMk w k t V I wr) (fun _ I _ => k - (intOf I).toNat)
  case atStart => exact ⟨0, by omega, rfl, HO.out, HB.out⟩
  case round =>
    clear HO HB cck1
    obtain ⟨j, hj, rfl, hO, hB⟩ := hrel
    have HO := Lib.hid hO; have HB := Lib.hid hB; clear hO hB
    by_cases hlt : j < k
    · have j0 : (j : Int) < (k : Int) := by omega
      have cj := (HS.out.below HB.out).at_ hlt
      have hz := HZ.out j hlt
      have HT := Lib.hid (sl_succ j t)
      have hsz : (t j).size ≤ 281474976710656 := by omega
      clear hz
      generalize t j = tj at cj hsz HT
      go_wp2_with fail
      refine (clone_any tj _ hsz).mono ?_
      rintro e w2 ⟨rfl, hb2⟩
      have HB2 := Lib.hid (Below.next HB.out hb2)
      have HO2 := Lib.hid (own_below HO.out hb2 (Nat.le_refl _))
      clear hb2
      go_wp2_with (at_builtin; refine wpList_append_own _ rfl _ _ 22 rfl w.heap.size 9 iS (.string ⟨#[]⟩) 1 16 Try.underlying22 HIS.out HZS.out HSS.out HBS.out rfl (by decide) _ _ _ rfl (HO2.out.alloc _) ⟨w2.heap.size, 0, none⟩ 1 1 [.string tj] rfl rfl ?c1 ?c2 ?c3 ?c4 ?c5 ?_)
      case c1 =>
        intro a u ha
        match a, ha with
        | 0, ha => simp at ha; subst ha; simp [Addr.add]
      case c2 => intro u hu; simp at hu; subst hu; rfl
      case c3 => unfold maxLen; omega
      case c4 => omega
      case c5 => have := HB2.out.size; simp; omega
      intro v' w3 hown' hgrow _
      have HN : Hid (w3.ownsRow w.heap.size 9 1 v' (j + 1) (sl (j + 1) t)) := by
        show World.ownsRow _ _ _ _ _ _ _
        rw [HT.out]; exact hown'
      have HB3 : Hid (Below w.heap.size w w3) := (HB2.out.alloc HB2.out.size _).grown hgrow (by have := HB2.out.size; simp; omega) (fun g e => (HO2.out.lt g e).1)
      clear hown' hgrow
      go_wp2
      go_roundw
      case rel => exact ⟨j + 1, by omega, by go_num, HN.out, HB3.out⟩
      case measure => simp [intOf]; omega
    · obtain rfl : k = j := by omega
      have ck2 := (HC.out.below HB.out).ck
      have ct2 := (HC.out.below HB.out).ct
      have HF2 := Lib.hid (HC.out.below HB.out).isf
      have HCF := Lib.hid (HC.out.below HB.out).cf
      have HT2 := Lib.hid (HS.out.below HB.out)
      have HCd := Lib.hid HC.out.cod
      have HOB : Hid (u6.ownBlock = u6.ownBlock) := rfl
      by_cases hkk : k < n
      · have hne : ¬ n = k := by omega
        have hkn0 : (k : Int) ≤ (n : Int) := by omega
        have HMt := Lib.hid (mat_from (HC.out.below HB.out).mat k (n - k) (by omega))
        have HL : Hid ((sl (n - k) (pc k m (fun i j => x (k + i) j) t)).length = (n - k) * 1) := by show _ = _; rw [sl_len, Nat.mul_one]
        have HX1 : Hid (k + (n - k) ≤ maxLen) := by show _ ≤ _; unfold maxLen; omega
        have HX2 : Hid ((k + (n - k)) * 16 ≤ 140737488355328) := by show _ ≤ _; omega
        go_wp2_with fail
        go_region_law (first
          | (refine step_own _ rfl (.tmp 45) (.tmp 57) 22 rfl w.heap.size 9 iS (.string ⟨#[]⟩) 1 16 Try.underlying22 HIS.out HZS.out HSS.out HBS.out rfl (by decide) u6 k (sl k t) (by simp [Act.eval]) HO3.out ⟨B3, 0, none⟩ (n - k) (n - k) (sl (n - k) (pc k m (fun i j => x (k + i) j) t)) (by simp [Act.eval]) HL.out HNW.out sl_one HX1.out HX2.out HB3.out.size ?_
             intro v' w4 hown' hgrow _
             have HB4 : Hid (Below w.heap.size w w4) := HB3.out.grown hgrow HB3.out.size (fun g e => (HO3.out.lt g e).1)
             have HN := Lib.hid hown'
             clear hown' hgrow)
          | (go_simp
             go_at_call 26
             refine (multiply_any c fb TB k (n - k) k m _ B O _ _ _ _ (fun i j => x (k + i) j) t _ (by omega) (by omega) (by omega) hm (by exact HCF.out) (by exact HF2.out.drewN 1) (by exact HMt.out.drewN 1) (by exact HT2.out.drewN 1) HZ.out).mono ?_
             rintro e w3 ⟨B3, rfl, hr, hlo, hb3⟩
             have HNW := Lib.hid (sl_news hr)
             have HB3 := Lib.hid (Below.next (below_drewN HB.out 1) hb3)
             have HO3 := Lib.hid (own_below (own_drewN HO.out 1) hb3 (Nat.le_refl _))
             clear hr hlo hb3))
        all_goals
          obtain ⟨B5, cap5, hv5, hcap5, hstr5, hb5⟩ := own_made (n := n) (by have := HN.out; rwa [show k + (n - k) = n from by omega] at this) HB4.out HCd.out hkn hk1 HZ.out
          subst hv5
          have HS5 := Lib.hid hstr5; have HC5 := Lib.hid hcap5
          clear hstr5 hcap5 hb5
          go_wp2_with fail
          go_ret2
          exact ⟨B5, cap5, rfl, HC5.out, HS5.out, HB4.out⟩
      · obtain rfl : k = n := by omega
        have HL : Hid ((sl (0) (pc k m (fun i j => x (k + i) j) t)).length = (0) * 1) := by show _ = _; rw [sl_len, Nat.mul_one]
        have HX1 : Hid (k + (0) ≤ maxLen) := by show _ ≤ _; unfold maxLen; omega
        have HX2 : Hid ((k + (0)) * 16 ≤ 140737488355328) := by show _ ≤ _; omega
        go_wp2_with fail
        go_region_law (first
          | (refine step_own _ rfl (.tmp 45) (.tmp 57) 22 rfl w.heap.size 9 iS (.string ⟨#[]⟩) 1 16 Try.underlying22 HIS.out HZS.out HSS.out HBS.out rfl (by decide) u6 k (sl k t) (by simp [Act.eval]) HO3.out ⟨B3, 0, none⟩ (0) (0) (sl (0) (pc k m (fun i j => x (k + i) j) t)) (by simp [Act.eval]) HL.out HNW.out sl_one HX1.out HX2.out HB3.out.size ?_
             intro v' w4 hown' hgrow _
             have HB4 : Hid (Below w.heap.size w w4) := HB3.out.grown hgrow HB3.out.size (fun g e => (HO3.out.lt g e).1)
             have HN := Lib.hid hown'
             clear hown' hgrow)
          | (go_simp
             go_at_call 26
             refine (multiply_any c fb TB 0 (0) k m _ B O _ (fun _ => 0) (fun _ => 0) (fun _ => 0) (fun i j => x (k + i) j) t _ (by omega) (by omega) (by omega) hm (by exact HCF.out) (by exact HF2.out.drewN 1) (by exact mat_none) (by exact HT2.out.drewN 1) HZ.out).mono ?_
             rintro e w3 ⟨B3, rfl, hr, hlo, hb3⟩
             have HNW := Lib.hid (sl_news hr)
             have HB3 := Lib.hid (Below.next (below_drewN HB.out 1) hb3)
             have HO3 := Lib.hid (own_below (own_drewN HO.out 1) hb3 (Nat.le_refl _))
             clear hr hlo hb3))
        all_goals
          obtain ⟨B5, cap5, hv5, hcap5, hstr5, hb5⟩ := own_made (n := k) (by rw [Nat.sub_self]; exact HN.out) HB4.out HCd.out hkn hk1 HZ.out
          subst hv5
          have HS5 := Lib.hid hstr5; have HC5 := Lib.hid hcap5
          clear hstr5 hcap5 hb5
          go_wp2_with fail
          go_ret2
          exact ⟨B5, cap5, rfl, HC5.out, HS5.out, HB4.out⟩
end Go.Proofs.Ytkgfkchdbbeljaa.Cd

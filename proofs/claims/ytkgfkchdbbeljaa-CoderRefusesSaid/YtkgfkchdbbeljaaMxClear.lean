/-
  A column is cleared: clearColumn.
-/
import Derived.Test.YtkgfkchdbbeljaaMxRowOps
namespace Go.Proofs.Ytkgfkchdbbeljaa.Mx
open Go.ChangeShapes Go.WideShapes Go.ChangeAt Go.RowKit Go.Proofs.Ytkgfkchdbbeljaa.Gf

theorem Own.swap {w : World} {lo B n m : Nat} {r : Nat → Nat} {x : Nat → Nat → K} (h : Own w lo B n m r x) {p q : Nat} (hp : p < n) (hq : q < n) :
    Own ((w.setCell ⟨B, p, none⟩ (.slice (some ⟨r q, 0, none⟩) m m)).setCell ⟨B, q, none⟩ (.slice (some ⟨r p, 0, none⟩) m m)) lo B n m (fun i => r (sw p q i)) (fun i => x (sw p q i)) := by
  refine ⟨((h.top.set p _).set q _).congr fun i hi => ?_, fun i hi => ?_, h.low, fun i hi => h.los _ (sw_lt hp hq hi), fun i hi j hj e => sw_inj (h.inj _ (sw_lt hp hq hi) _ (sw_lt hp hq hj) e)⟩
  · by_cases e1 : i = q
    · subst e1
      rw [if_pos rfl]
      unfold sw
      by_cases e2 : i = p
      · subst e2; rw [if_pos rfl]
      · rw [if_neg e2, if_pos rfl]
    · rw [if_neg e1]
      unfold sw
      by_cases e2 : i = p
      · rw [if_pos e2, if_pos e2]
      · rw [if_neg e2, if_neg e2, if_neg e1]
  · have hs := sw_lt hp hq hi
    exact ((h.row _ hs).setOther (Ne.symm (h.ne hs)) _).setOther (Ne.symm (h.ne hs)) _
/-- What clearColumn answers where there is a row to clear with. -/
def Cleared (lo B n M c : Nat) (x : Nat → Nat → K) (w : World) (e : Ending) (w' : World) : Prop :=
  e = .returned (.bool true) ∧ ∃ (r : Nat → Nat) (y : Nat → Nat → K), Own w' lo B n M r y ∧ RE n x y ∧ (∀ i, i < n → ∀ j, j < c + 1 → y i j = one i j) ∧ Below lo w w'
/-- Rows whose first c columns are cleared. -/
def Cle (n c : Nat) (x : Nat → Nat → K) : Prop := ∀ i, i < n → ∀ j, j < c → x i j = one i j
theorem Cle.swap {n c p : Nat} {x : Nat → Nat → K} (h : Cle n c x) (hc : c < n) (hp : p < n) (hcp : c ≤ p) : Cle n c (fun i => x (sw c p i)) := fun i hi j hj => by
  show x (sw c p i) j = one i j
  rw [h _ (sw_lt hc hp hi) j hj]
  unfold one sw
  by_cases e1 : i = c
  · rw [if_pos e1, if_neg (by omega), if_neg (by omega)]
  · rw [if_neg e1]
    by_cases e2 : i = p
    · rw [if_pos e2, if_neg (by omega), if_neg (by omega)]
    · rw [if_neg e2]
/-- k rows of the column are cleared. -/
structure Clr (lo B n M c k : Nat) (r : Nat → Nat) (x : Nat → Nat → K) (w wr : World) (y : Nat → Nat → K) : Prop where
  own : Own wr lo B n M r y
  re : RE n x y
  cle : Cle n c y
  lead : y c c = 1
  done : ∀ i, i < k → i < n → i ≠ c → y i c = 0
  below : Below lo w wr
theorem Clr.skip {lo B n M c : Nat} {r : Nat → Nat} {x y : Nat → Nat → K} {w wr : World} (h : Clr lo B n M c c r x w wr y) : Clr lo B n M c (c + 1) r x w wr y :=
  ⟨h.own, h.re, h.cle, h.lead, fun i h1 h2 h3 => h.done i (by omega) h2 h3, h.below⟩
theorem Clr.step {lo B n M c k : Nat} {r : Nat → Nat} {x y : Nat → Nat → K} {w wr w' : World} (h : Clr lo B n M c k r x w wr y) (hc : c < n) (hk : k < n) (hkc : k ≠ c)
    (hb : But (r k) wr w') (hr : RowK w' (r k) M (fun j => y k j + y c j * y k c)) : ∃ y', Clr lo B n M c (k + 1) r x w w' y' := by
  refine ⟨adr y c k (y k c), ⟨(h.own.turn hk hb hr).congr fun a ha b hb => ?_, h.re.trans (re_add hc hkc), fun i hi j hj => ?_, ?_, fun i h1 h2 h3 => ?_, h.below.trans (hb.below (h.own.los k hk))⟩⟩
  · unfold updRow adr
    by_cases e : a = k
    · subst e; rw [if_pos rfl, if_pos rfl, mulc]
    · rw [if_neg e, if_neg e]
  · unfold adr
    by_cases e : i = k
    · rw [if_pos e, h.cle c hc j hj, show one c j = 0 from if_neg (by omega), mul0, add0]; exact h.cle i hi j hj
    · rw [if_neg e]; exact h.cle i hi j hj
  · unfold adr; rw [if_neg (fun e => hkc e.symm)]; exact h.lead
  · unfold adr
    by_cases e : i = k
    · subst e; rw [if_pos rfl, h.lead, mul1, add2]
    · rw [if_neg e]; exact h.done i (by omega) h2 h3
theorem Clr.end_ {lo B n M c : Nat} {r : Nat → Nat} {x y : Nat → Nat → K} {w wr : World} (h : Clr lo B n M c n r x w wr y) : Cleared lo B n M c x w (.returned (.bool true)) wr :=
  ⟨rfl, r, y, h.own, h.re, fun i hi j hj => by
    by_cases e : j = c
    · subst e
      unfold one
      by_cases e2 : i = j
      · rw [if_pos e2, e2]; exact h.lead
      · rw [if_neg e2]; exact h.done i hi hi e2
    · exact h.cle i hi j (by omega), h.below⟩
theorem Clr.start {lo B n M c : Nat} {r : Nat → Nat} {x x1 : Nat → Nat → K} {w w1 w' : World} (hc : c < n) (ho : Own w1 lo B n M r x1) (hre : RE n x x1) (hcl : Cle n c x1) (hl : x1 c c ≠ 0) (hbl : Below lo w w1)
    (hb : But (r c) w1 w') (hr : RowK w' (r c) M (fun j => kd (x1 c j) (x1 c c))) : ∃ y, Clr lo B n M c 0 r x w w' y := by
  have hs : ∀ a b, updRow x1 c (fun j => kd (x1 c j) (x1 c c)) a b = scl x1 c (kd 1 (x1 c c)) a b := fun a b => by
    unfold updRow scl
    by_cases e : a = c
    · subst e; rw [if_pos rfl, if_pos rfl]; exact kd_form _ _ hl
    · rw [if_neg e, if_neg e]
  refine ⟨scl x1 c (kd 1 (x1 c c)), ⟨(ho.turn hc hb hr).congr fun a _ b _ => hs a b, hre.trans (re_scale hc (kd_ne _ hl)), fun i hi j hj => ?_, ?_, fun i h => by omega, hbl.trans (hb.below (ho.los c hc))⟩⟩
  · unfold scl
    by_cases e : i = c
    · rw [if_pos e, hcl i hi j hj, show one i j = 0 from if_neg (by omega), mul0]
    · rw [if_neg e]; exact hcl i hi j hj
  · unfold scl; rw [if_pos rfl]; exact kd_mul 1 _ hl
def RelCl (lo B n M c : Nat) (r : Nat → Nat) (x : Nat → Nat → K) (w : World) (I : Value) (wr : World) : Prop := ∃ (k : Nat) (y : Nat → Nat → K), k ≤ n ∧ I = .int .i64 (k : Int) ∧ Clr lo B n M c k r x w wr y
set_option maxRecDepth 100000 in
set_option maxHeartbeats 1000000 in
theorem clear_yes (fb lo B n M c : Nat) (r : Nat → Nat) (x : Nat → Nat → K) (w : World) (hO : Own w lo B n M r x) (hF : IsF w fb) (hfb : fb < lo) (hc : c < n) (hn : n ≤ 64) (hcM : c < M) (hM : M ≤ 200) (hD : Cle n c x) (h : ∃ i, c ≤ i ∧ i < n ∧ x i c ≠ 0) :
    Calls Try.prog 36 #[.pointer (some ⟨fb, 0, none⟩), .slice (some ⟨B, 0, none⟩) n n, .int .i64 (c : Int)] w (Cleared lo B n M c x w) := by
  have HO := Lib.hid hO; have HF := Lib.hid hF; have HD := Lib.hid hD; have H := Lib.hid h
  clear hO hF hD h
  have c0 : (c : Int) < (n : Int) := by omega
  have c1 : (c : Int) < (M : Int) := by omega
  go_enter Try.func36, Try.ntmps36
  go_wp2_with fail
  refine (lead_yes B 0 n M n c _ _ _ x _ (by omega) hcM (by omega) HO.out.mat H.out).mono ?_
  rintro e w' ⟨p, hp1, hp2, hp3, rfl, rfl⟩
  have HP := Lib.hid hp3; clear hp3
  have ca := HO.out.top.cell hc
  have cb := HO.out.top.cell hp2
  have fa := HO.out.top.frozen c
  have fb' := HO.out.top.frozen p
  have p0 : (p : Int) < (n : Int) := by omega
  have cb2 : ∀ v, ∃ u, (w.setCell ⟨B, c, none⟩ v).cell? ⟨B, p, none⟩ = some u := fun v => cell?_setCell_some (w := w) (p := ⟨B, c, none⟩) (x := v) (q := ⟨B, p, none⟩) (v := .slice (some ⟨r p, 0, none⟩) M M) cb
  obtain ⟨u, cu⟩ := cb2 (.slice (some ⟨r p, 0, none⟩) M M)
  clear cb2
  go_wp2_with fail
  go_region
  have hO1 : Own ((w.setCell ⟨B, c, none⟩ (.slice (some ⟨r p, 0, none⟩) M M)).setCell ⟨B, p, none⟩ (.slice (some ⟨r c, 0, none⟩) M M)).drew lo B n M (fun i => r (sw c p i)) (fun i => x (sw c p i)) := (HO.out.swap hc hp2).drewN 1
  have hB1 : Below lo w ((w.setCell ⟨B, c, none⟩ (.slice (some ⟨r p, 0, none⟩) M M)).setCell ⟨B, p, none⟩ (.slice (some ⟨r c, 0, none⟩) M M)).drew := (((Below.refl lo w).setCell (p := ⟨B, c, none⟩) HO.out.low _).setCell (p := ⟨B, p, none⟩) HO.out.low _).drew
  generalize ((w.setCell ⟨B, c, none⟩ (.slice (some ⟨r p, 0, none⟩) M M)).setCell ⟨B, p, none⟩ (.slice (some ⟨r c, 0, none⟩) M M)).drew = w1 at *
  have hRE : RE n x (fun i => x (sw c p i)) := re_swap hc hp2
  have hC1 := HD.out.swap hc hp2 hp1
  have hL1 : (fun i => x (sw c p i)) c c ≠ 0 := by
    show x (sw c p c) c ≠ 0
    rw [show sw c p c = p from if_pos rfl]; exact HP.out
  have HF1 := Lib.hid (IsF.below HF.out hfb hB1)
  generalize (fun i => x (sw c p i)) = x1 at *
  generalize (fun i => r (sw c p i)) = r1 at *
  have HO1 := Lib.hid hO1; have HB1 := Lib.hid hB1; have HRE := Lib.hid hRE; have HC1 := Lib.hid hC1; have HL1 := Lib.hid hL1
  clear hO1 hB1 hRE hC1 hL1 ca cb fa fb' cu p0
  have ct := HO1.out.top.cell hc
  have cr := (HO1.out.row c hc).cell hcM
  go_wp2_with fail
  refine (divide_any fb (r1 c) M (x1 c) (x1 c c) _ (by omega) HL1.out HF1.out (by have := HO1.out.los c hc; omega) (HO1.out.row c hc)).mono ?_
  rintro e w2 ⟨rfl, hbut, hrow⟩
  have HS := Lib.hid (Clr.start hc HO1.out HRE.out HC1.out HL1.out HB1.out hbut hrow)
  clear hbut hrow ct cr
  go_wp2_with fail
  go_loopw [47] (fun I wr => RelCl lo B n M c r1 x w I wr) (fun I _ => n - (intOf I).toNat)
  case atStart =>
    obtain ⟨y, hy⟩ := HS.out
    exact ⟨0, y, by omega, rfl, hy⟩
  case round =>
    clear HS HO1 HRE HC1 HL1 HB1 HF1
    obtain ⟨k, y, hk, rfl, hY⟩ := hrel
    have HY := Lib.hid hY; clear hY
    by_cases hlt : k < n
    · have ct := HY.out.own.top.cell hlt
      have k0 : (k : Int) < (n : Int) := by omega
      by_cases hkc : k = c
      · subst hkc
        have t : ((k : Int) != (k : Int)) = false := by simp
        go_wp2
        go_roundw
        case rel => exact ⟨k + 1, y, by omega, by go_num, HY.out.skip⟩
        case measure => simp [intOf]; omega
      · have t : ((k : Int) != (c : Int)) = true := by simp; omega
        have t' : (k != c) = true := by simpa using hkc
        have cr := (HY.out.own.row k hlt).cell hcM
        have HK := Lib.hid hkc; clear hkc
        go_wp2_with fail
        refine (addt_any fb (r1 k) (r1 c) M (y k) (y c) (y k c) _ (by omega) (IsF.below HF.out hfb HY.out.below) (by have := HY.out.own.los k hlt; omega) (fun e => HK.out (HY.out.own.inj k hlt c hc e.symm)) (HY.out.own.row k hlt) (HY.out.own.row c hc)).mono ?_
        rintro e w3 ⟨rfl, hbut, hrow⟩
        have HS := Lib.hid (HY.out.step hc hlt HK.out hbut hrow)
        clear hbut hrow
        go_wp2_with fail
        go_roundw
        case rel =>
          obtain ⟨y', hy'⟩ := HS.out
          exact ⟨k + 1, y', by omega, by go_num, hy'⟩
        case measure => simp [intOf]; omega
    · obtain rfl : k = n := by omega
      go_wp2
      go_ret
      exact HY.out.end_
set_option maxRecDepth 100000 in
set_option maxHeartbeats 1000000 in
theorem clear_no (fb lo B n M c : Nat) (r : Nat → Nat) (x : Nat → Nat → K) (w : World) (hO : Own w lo B n M r x) (hc : c < n) (hn : n ≤ 64) (hcM : c < M) (h : ∀ i, c ≤ i → i < n → x i c = 0) :
    Calls Try.prog 36 #[.pointer (some ⟨fb, 0, none⟩), .slice (some ⟨B, 0, none⟩) n n, .int .i64 (c : Int)] w fun e w' => e = .returned (.bool false) ∧ w = w' := by
  have HO := Lib.hid hO; have H := Lib.hid h
  clear hO h
  go_enter Try.func36, Try.ntmps36
  go_wp2_with fail
  refine (lead_no B 0 n M n c _ _ _ x _ (by omega) hcM (by omega) HO.out.mat H.out).mono ?_
  rintro e w' ⟨rfl, rfl⟩
  go_wp2_with fail
  go_ret
  exact ⟨rfl, rfl⟩
end Go.Proofs.Ytkgfkchdbbeljaa.Mx

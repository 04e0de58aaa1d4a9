/-
  What the laws of layer 3 call beside the program: few, awake; the document's Even.
-/
import Derived.Test.YtkgfkchdbbeljaaCdRead
import Derived.Test.YtkgfkchdbbeljaaCdRight
namespace Go.Proofs.Ytkgfkchdbbeljaa.Cd
open Go.ChangeShapes Go.WideShapes Go.ChangeAt Go.RowKit Go.Proofs.Ytkgfkchdbbeljaa.Gf Go.Proofs.Ytkgfkchdbbeljaa.Mx

/-- How long texts are together. -/
def tot (t : Nat → ByteArray) : Nat → Nat
  | 0 => 0
  | n + 1 => tot t n + (t n).size
/-- Texts of a size that is looked at. -/
def FewS (n : Nat) (t : Nat → ByteArray) : Prop := n < 100 ∧ (∀ i, i < n → (t i).size ≤ 1000) ∧ tot t n ≤ 3000
def FewPost (n : Nat) (t : Nat → ByteArray) (w : World) (e : Ending) (w' : World) : Prop := ∃ b : Bool, e = .returned (.bool b) ∧ (b = true ↔ FewS n t) ∧ w' = w
theorem few_false {n : Nat} {t : Nat → ByteArray} {w : World} (h : ¬ FewS n t) : FewPost n t w (.returned (.bool false)) w := ⟨false, rfl, ⟨fun h => absurd h (by decide), fun k => absurd k h⟩, rfl⟩
def RelFw (n : Nat) (t : Nat → ByteArray) (N I : Value) : Prop := ∃ k : Nat, k ≤ n ∧ k ≤ 100 ∧ tot t k ≤ 1000 * k ∧ (∀ i, i < k → (t i).size ≤ 1000) ∧ N = .int .i64 (tot t k : Int) ∧ I = .int .i64 (k : Int)
set_option maxHeartbeats 1000000 in
theorem few_any (p : Option Addr) (n cn : Nat) (t : Nat → ByteArray) (w : World) (hn : n ≤ maxLen) (hS : Strs w p n t) :
    Calls Try.prog 8 #[.slice p n cn] w (FewPost n t w) := by
  unfold maxLen at hn
  have HS := Lib.hid hS; clear hS
  go_enter Try.func8, Try.ntmps8
  go_wp2
  go_loop [3, 4] (fun N I => RelFw n t N I) (fun _ I => n - (intOf I).toNat)
  case atStart => exact ⟨0, by omega, by omega, Nat.le_refl _, fun i hi => by omega, rfl, rfl⟩
  case round =>
    obtain ⟨k, hk, hk2, hs, hA, rfl, rfl⟩ := hrel
    have HA := Lib.hid hA; clear hA
    have HT : Hid (tot t (k + 1) = tot t k + (t k).size) := rfl
    have HSn : Hid (tot t k = tot t k) := rfl
    generalize hts : tot t k = s at hs HT ⊢
    have HTs := Lib.hid hts; clear hts HSn
    by_cases hlt : k < n
    · have k0 : (k : Int) < (n : Int) := by omega
      obtain ⟨B, O, rfl, hc⟩ := HS.out (by omega)
      have c1 := hc k hlt
      clear hc
      by_cases h100 : k < 100
      · have k1 : (k : Int) < 100 := by omega
        by_cases hz : (t k).size ≤ 1000
        · have HX : Hid (∀ i, i < k + 1 → (t i).size ≤ 1000) := fun i hi => by
            by_cases e : i = k
            · subst e; exact hz
            · exact HA.out i (by omega)
          have d1 : decide ((1000 : Int) < ((t k).size : Int)) = false := by simp; omega
          generalize t k = tk at c1 d1 hz HT
          go_wp2
          go_round
          case rel => exact ⟨k + 1, by omega, by omega, by rw [HT.out]; omega, HX.out, by rw [HT.out]; go_num, by go_num⟩
          case measure => simp [intOf]; omega
        · have d1 : decide ((1000 : Int) < ((t k).size : Int)) = true := by simp; omega
          have HN : Hid (¬ FewS n t) := fun h => hz (h.2.1 k hlt)
          clear hz
          generalize t k = tk at c1 d1
          go_wp2
          go_ret
          exact few_false HN.out
      · have k1 : decide ((k : Int) < 100) = false := by simp; omega
        have k2 : decide ((n : Int) < 100) = false := by simp; omega
        have HN : Hid (¬ FewS n t) := fun h => by have := h.1; omega
        go_wp2
        go_ret
        exact few_false HN.out
    · obtain rfl : n = k := by omega
      by_cases h100 : n < 100
      · have k2 : decide ((n : Int) < 100) = true := by simp; omega
        by_cases h3 : (s : Int) ≤ 3000
        · have HF : Hid (FewS n t) := ⟨h100, HA.out, by rw [HTs.out]; omega⟩
          have k3 : decide ((s : Int) ≤ 3000) = true := by simpa using h3
          go_wp2
          go_ret
          exact ⟨true, rfl, ⟨fun _ => HF.out, fun _ => rfl⟩, rfl⟩
        · have k3 : decide ((s : Int) ≤ 3000) = false := by simpa using h3
          have HN : Hid (¬ FewS n t) := fun h => by have := h.2.2; rw [HTs.out] at this; omega
          go_wp2
          go_ret
          exact few_false HN.out
      · have k2 : decide ((n : Int) < 100) = false := by simp; omega
        have HN : Hid (¬ FewS n t) := fun h => by have := h.1; omega
        go_wp2
        go_ret
        exact few_false HN.out
theorem few_yes (p : Option Addr) (n cn : Nat) (t : Nat → ByteArray) (w : World) (hn : n ≤ maxLen) (hS : Strs w p n t) (h : FewS n t) :
    Calls Try.prog 8 #[.slice p n cn] w fun e w' => e = .returned (.bool true) ∧ w' = w :=
  (few_any p n cn t w hn hS).mono fun _ _ ⟨b, he, hb, hw⟩ => ⟨by rw [he, hb.2 h], hw⟩
theorem few_no (p : Option Addr) (n cn : Nat) (t : Nat → ByteArray) (w : World) (hn : n ≤ maxLen) (hS : Strs w p n t) (h : ¬ FewS n t) :
    Calls Try.prog 8 #[.slice p n cn] w fun e w' => e = .returned (.bool false) ∧ w' = w :=
  (few_any p n cn t w hn hS).mono fun _ _ ⟨b, he, hb, hw⟩ => ⟨by
    cases b with
    | false => exact he
    | true => exact absurd (hb.1 rfl) h, hw⟩
def EvenPost (n : Nat) (t : Nat → ByteArray) (w : World) (e : Ending) (w' : World) : Prop := ∃ b : Bool, e = .returned (.bool b) ∧ (b = true ↔ Ev n t) ∧ ∃ m, w' = w.drewN m
def RelEn (n : Nat) (t : Nat → ByteArray) (w : World) (I : Value) (wr : World) : Prop := ∃ k m : Nat, k ≤ n ∧ Ev k t ∧ I = .int .i64 (k : Int) ∧ wr = w.drewN m
set_option maxHeartbeats 400000 in
theorem even_any (p : Option Addr) (n cn : Nat) (t : Nat → ByteArray) (w : World) (hn : n ≤ 4294967296) (hS : Strs w p n t) :
    Calls Try.prog 16 #[.slice p n cn] w (EvenPost n t w) := by
  have HS := Lib.hid hS; clear hS
  go_enter Try.func16, Try.ntmps16
  go_wp2
  go_loopw [3] (fun I wr => RelEn n t w I wr) (fun I _ => n - (intOf I).toNat)
  case atStart => exact ⟨0, 0, by omega, fun i hi => by omega, rfl, rfl⟩
  case round =>
    obtain ⟨k, m, hk, hE, rfl, hw⟩ := hrel
    have HE := Lib.hid hE; have HW := Lib.hid hw; clear hE hw
    by_cases hlt : k < n
    · obtain ⟨B, O, rfl, hc⟩ := HS.out (by omega)
      have c1 : wr.cell? ⟨B, O + k, none⟩ = some (.string (t k)) := by rw [HW.out]; exact hc k hlt
      have c0 : wr.cell? ⟨B, O, none⟩ = some (.string (t 0)) := by
        rw [HW.out]; have := hc 0 (by omega); rwa [Nat.add_zero] at this
      have k0 : (k : Int) < (n : Int) := by omega
      have n0 : (0 : Int) < (n : Int) := by omega
      clear hc
      by_cases hz : (t k).size = (t 0).size
      · have tz : (((t k).size : Int) != ((t 0).size : Int)) = false := by simp [hz]
        have tz' : ((t k).size != (t 0).size) = false := by simp [hz]
        have HX : Hid (Ev (k + 1) t) := fun i hi => by
          by_cases e : i = k
          · subst e; exact hz
          · exact HE.out i (by omega)
        clear hz
        generalize t k = tk at c1 tz tz'
        generalize t 0 = t0 at c0 tz tz'
        go_wp2_with fail
        go_quiet (fail)
        go_wp2
        go_roundw
        case rel => exact ⟨k + 1, _, by omega, HX.out, by go_num, by rw [HW.out, World.drewN_drewN]⟩
        case measure => simp [intOf]; omega
      · have tz : (((t k).size : Int) != ((t 0).size : Int)) = true := by simp; omega
        have tz' : ((t k).size != (t 0).size) = true := by simp [hz]
        have HN : Hid (¬ Ev n t) := fun h => hz (h k hlt)
        clear hz
        generalize t k = tk at c1 tz tz'
        generalize t 0 = t0 at c0 tz tz'
        go_wp2_with fail
        go_quiet (fail)
        go_wp2
        go_ret
        exact ⟨false, rfl, ⟨fun h => absurd h (by decide), fun h => absurd h HN.out⟩, _, by rw [HW.out, World.drewN_drewN]⟩
    · obtain rfl : n = k := by omega
      go_wp2
      go_ret
      exact ⟨true, rfl, ⟨fun _ => HE.out, fun _ => rfl⟩, m, HW.out⟩
theorem lit_strs (w : World) (l : List ByteArray) (n : Nat) (hn : l.length = n) : Strs (w.alloc (.cells (l.map Value.string).toArray 9)) (some ⟨w.heap.size, 0, none⟩) n (fun i => l.getD i ⟨#[]⟩) := fun _ =>
  ⟨_, _, rfl, fun i hi => by
    rw [World.cell?_alloc_at _ _ _ _ rfl]
    simp [List.getElem?_map, List.getD, List.getElem?_eq_getElem (show i < l.length by omega)]⟩
set_option maxRecDepth 100000 in
set_option maxHeartbeats 1000000 in
theorem awake_any (w : World) :
    Calls Try.prog 7 #[] w fun e w' => e = .returned (.bool true) ∧ Below w.heap.size w w' := by
  go_enter Try.func7, Try.ntmps7
  go_wp2_with fail
  refine (new_yes 1 3 (by omega) (by omega) (by omega) _).mono ?_
  rintro e w1 ⟨c, fb, TB, r, x, rfl, hC, hb⟩
  have HC := Lib.hid hC; have HB := Lib.hid hb; clear hC hb
  go_wp2_with fail
  have HA : Hid (Below w1.heap.size w1 (w1.alloc (.cells #[.string ⟨#[97, 98]⟩] 9))) := (Below.refl _ _).alloc (Nat.le_refl _) _
  have HS := Lib.hid (lit_strs w1 [⟨#[97, 98]⟩] 1 rfl)
  refine (make_yes c 1 3 fb TB r x w1.heap.size 0 _ 2 _ _ (HC.out.below HA.out) HS.out (fun j hj => by
    match j, hj with
    | 0, _ => rfl) (by omega)).mono ?_
  rintro e w2 ⟨B2, cap2, rfl, _, hS2, hb2⟩
  have HE : Hid (pc 1 2 x (fun i => [(⟨#[97, 98]⟩ : ByteArray)].getD i ⟨#[]⟩) 2 = ⟨#[97, 98]⟩) := by
    show _ = _
    have : pc 1 2 x (fun i => [(⟨#[97, 98]⟩ : ByteArray)].getD i ⟨#[]⟩) 2 = (fun i => [(⟨#[97, 98]⟩ : ByteArray)].getD i ⟨#[]⟩) 0 := bs_text rfl fun p _ => by
      show 0 + x 2 0 * _ = _
      rw [HC.out.cod.of_one (by omega), onem, zadd]; rfl
    exact this
  have HB2 := Lib.hid (Below.next (Below.next HB.out HA.out) hb2)
  have HS2 := Lib.hid hS2
  clear hS2 hb2 HA HS
  go_wp2_with fail
  refine (new_yes 2 3 (by omega) (by omega) (by omega) _).mono ?_
  rintro e w3 ⟨c', fb', TB', r', x', rfl, hC', hb3⟩
  have HC' := Lib.hid hC'; have HS3 := Lib.hid (HS2.out.below hb3); have HB3 := Lib.hid (Below.next HB2.out hb3); clear hC' hb3
  go_wp2_with fail
  have HA : Hid (Below w3.heap.size w3 (w3.alloc (.cells #[.string ⟨#[]⟩, .string ⟨#[]⟩] 9))) := (Below.refl _ _).alloc (Nat.le_refl _) _
  have HS := Lib.hid (lit_strs w3 [⟨#[]⟩, ⟨#[]⟩] 2 rfl)
  refine (make_yes c' 2 3 fb' TB' r' x' w3.heap.size 0 _ 0 _ _ (HC'.out.below HA.out) HS.out (fun j hj => by
    match j, hj with
    | 0, _ => rfl
    | 1, _ => rfl) (by omega)).mono ?_
  rintro e w4 ⟨B4, cap4, rfl, _, _, hb4⟩
  have hc2 := ((HS3.out.below HA.out).below hb4).at_ (i := 2) (by omega)
  rw [HE.out] at hc2
  have HB4 := Lib.hid (Below.next (Below.next HB3.out HA.out) hb4)
  clear hb4 HE HA HS
  go_wp2_with fail
  go_ret
  exact ⟨rfl, HB4.out⟩
end Go.Proofs.Ytkgfkchdbbeljaa.Cd

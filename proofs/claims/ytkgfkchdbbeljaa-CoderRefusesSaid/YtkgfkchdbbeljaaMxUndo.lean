/-
  What undoes rows: Undo.
-/
import Derived.Test.YtkgfkchdbbeljaaMxClear
import Derived.Test.YtkgfkchdbbeljaaMxPowers
namespace Go.Proofs.Ytkgfkchdbbeljaa.Mx
open Go.ChangeShapes Go.WideShapes Go.ChangeAt Go.RowKit Go.Proofs.Ytkgfkchdbbeljaa.Gf

/-- What Undo answers of right square rows. -/
def UndoPost (n : Nat) (x : Nat → Nat → K) (w : World) (e : Ending) (w' : World) : Prop :=
  (∃ y, Inv n x y ∧ Made2 n n y (.int .i64 0) w e w') ∨ (Sing n x ∧ Nope 4 w e w')
/-- The first k columns are cleared. -/
structure Und (lo B n k : Nat) (x : Nat → Nat → K) (w wr : World) (r : Nat → Nat) (y : Nat → Nat → K) : Prop where
  own : Own wr lo B n (2 * n) r y
  re : RE n (wide n x) y
  cle : Cle n k y
  below : Below lo w wr
theorem Und.sing {lo B n k : Nat} {x y : Nat → Nat → K} {w wr : World} {r : Nat → Nat} (h : Und lo B n k x w wr r y) (hk : k < n) (hz : ∀ i, k ≤ i → i < n → y i k = 0) : Sing n x := by
  obtain ⟨v, hv, hker⟩ := sing_of hk (W := y) (fun j hj => by rw [h.cle j (by omega) j hj, one, if_pos rfl]; exact one_ne) (fun j hj i h1 h2 => by rw [h.cle i h2 j hj, one, if_neg (by omega)]) hz
  exact ⟨v, ⟨k, hk, by rw [hv]; exact one_ne⟩, wide_ker (h.re.ker hker)⟩
theorem Und.step {lo B n k : Nat} {x y y' : Nat → Nat → K} {w wr w' : World} {r r' : Nat → Nat} (h : Und lo B n k x w wr r y) (ho : Own w' lo B n (2 * n) r' y') (hre : RE n y y') (hc : ∀ i, i < n → ∀ j, j < k + 1 → y' i j = one i j) (hb : Below lo wr w') : Und lo B n (k + 1) x w w' r' y' :=
  ⟨ho, h.re.trans hre, hc, h.below.trans hb⟩
def JU (P O n cn fb B : Nat) (x : Nat → Nat → K) (w0 : World) (a' : Act) (w' : World) : Prop := ∃ (k : Nat) (r : Nat → Nat) (y : Nat → Nat → K) (u7 u8 u9 u10 u11 u12 u13 u14 u15 u16 u17 u18 u19 u20 u21 u22 u23 u24 u25 u26 u27 u28 u29 u30 u31 u32 u33 u34 u35 u36 : Value), k < n ∧ Und w0.heap.size B n k x w0 w' r y ∧
  a' = { tmps := #[.slice (some ⟨P, O, none⟩) n cn, undef, .slice none 0 0, .int .i64 0, .pointer (some ⟨fb, 0, none⟩), .slice (some ⟨B, 0, none⟩) n n, .int .i64 (k : Int), u7, u8, u9, u10, u11, u12, u13, u14, u15, u16, u17, u18, u19, u20, u21, u22, u23, u24, u25, u26, u27, u28, u29, u30, u31, u32, u33, u34, u35, u36], defers := [] }
def JUx (P O n cn : Nat) (x : Nat → Nat → K) (w : World) (a' : Act) (w' : World) : Prop := ∃ B, JU P O n cn w.heap.size B x (fresh w) a' w'
def muU (n : Nat) (a : Act) (_ : World) : Nat := n - (intOf (a.tmps.getD 6 undef)).toNat
theorem Und.cast {lo B n k k' : Nat} {x y : Nat → Nat → K} {w wr : World} {r : Nat → Nat} (h : Und lo B n k x w wr r y) (e : k = k') : Und lo B n k' x w wr r y := e ▸ h
theorem Und.fin {B n : Nat} {x y : Nat → Nat → K} {w wr w' : World} {r : Nat → Nat} {e : Ending} (h : Und (fresh w).heap.size B n n x (fresh w) wr r y) (hm : ∃ (B' : Nat) (r' : Nat → Nat), e = .returned (.tuple #[.slice (some ⟨B', 0, none⟩) n n, .int .i64 0]) ∧ Own w' wr.heap.size B' n n r' (fun i j => y i (n + j)) ∧ Below wr.heap.size wr w') : UndoPost n x w e w' := by
  obtain ⟨B', r', he, ho, hb⟩ := hm
  refine Or.inl ⟨_, wide_inv h.re h.cle, Made2.of_fresh ⟨B', r', he, ho.mono h.below.size, Below.next h.below hb⟩⟩
theorem Und.not {B n k : Nat} {x y : Nat → Nat → K} {w wr : World} {r : Nat → Nat} (h : Und (fresh w).heap.size B n k x (fresh w) wr r y) (hk : k < n) (hz : ∀ i, k ≤ i → i < n → y i k = 0) : UndoPost n x w (.returned (.tuple #[.slice none 0 0, .int .i64 4])) wr :=
  Or.inr ⟨h.sing hk hz, rfl, Below.next (fresh_below w) h.below⟩
set_option maxRecDepth 100000 in
set_option maxHeartbeats 1000000 in
theorem undo_any (P O n cn : Nat) (b o c : Nat → Nat) (x : Nat → Nat → K) (w : World) (hn : 1 ≤ n) (hn' : n ≤ 32) (hM : Mat w P O n n b o c x) :
    Calls Try.prog 21 #[.slice (some ⟨P, O, none⟩) n cn] w (UndoPost n x w) := by
  have c0 := hM.top0 (by omega)
  have HM := Lib.hid hM; clear hM
  have n0 : (0 : Int) < (n : Int) := by omega
  have HF0 := Lib.hid (fresh_F w)
  have HFl : Hid (w.heap.size < (fresh w).heap.size) := by rw [fresh_size]; exact Nat.lt_succ_self _
  go_enter Try.func21, Try.ntmps21
  go_wp2_with fail
  refine wp_scope_jumps 0 (JUx P O n cn x w) (muU n) rfl ?_ ?_
  · go_wp2_with fail
    refine (right_yes _ _ _ _ _ _ _ HM.out.rag ⟨hn, hn', hn, hn', fun _ _ => rfl⟩).mono ?_
    rintro e w' ⟨rfl, hw'⟩
    obtain rfl : w = w' := hw'.symm
    go_wp2_with fail
    refine (new_fresh _).mono ?_
    rintro e w0 ⟨rfl, rfl⟩
    have HM1 : Hid (Mat (fresh w) P O n n b o c x) := HM.out.below (fresh_below _)
    clear c0
    go_wp2_with fail
    refine (beside_any _ _ n _ _ _ _ x _ (by omega) (by omega) HM1.out).mono ?_
    rintro e w1 ⟨B, r, rfl, ho, hb⟩
    have HU : Hid (Und (fresh w).heap.size B n 0 x (fresh w) w1 r (wide n x)) := ⟨ho, RE.refl, fun i _ j hj => by omega, hb⟩
    clear ho hb
    go_wp2_with fail
    go_step3
    generalize wide n x = y at HU
    go_wp2_with fail
    by_cases hz : ∀ i, 0 ≤ i → i < n → y i 0 = 0
    · have HZ := Lib.hid hz; clear hz
      refine (clear_no w.heap.size (fresh w).heap.size B n (2 * n) 0 r y _ HU.out.own (by omega) (by omega) (by omega) HZ.out).mono ?_
      rintro e w2 ⟨rfl, rfl⟩
      go_wp2_with fail
      simp only [Exit.jump]
      go_ret2
      exact HU.out.not (by omega) HZ.out
    have hz' : ∃ i, 0 ≤ i ∧ i < n ∧ y i 0 ≠ 0 := by
      refine Classical.byContradiction fun hn => hz fun i h1 h2 => Classical.byContradiction fun h3 => hn ⟨i, h1, h2, h3⟩
    have HZ := Lib.hid hz'; clear hz hz'
    refine (clear_yes w.heap.size (fresh w).heap.size B n (2 * n) 0 r y _ HU.out.own (IsF.old HF0.out HU.out.below) HFl.out (by omega) (by omega) (by omega) (by omega) HU.out.cle HZ.out).mono ?_
    rintro e w2 ⟨rfl, r', y', ho, hre, hcl, hbl⟩
    have HU2 := Lib.hid (HU.out.step ho hre hcl hbl)
    clear ho hre hcl hbl
    by_cases hlt : 0 + 1 < n
    · have hlt' : (1 : Int) < (n : Int) := by omega
      go_wp2_with fail
      go_step3
      refine ⟨rfl, ⟨B, 1, r', y', _, _, _, _, _, _, _, _, _, _, _, _, _, _, _, _, _, _, _, _, _, _, _, _, _, _, _, _, _, _, by omega, HU2.out, rfl⟩⟩
    · have hge : ¬ (1 : Int) < (n : Int) := by omega
      have HUn : Hid (Und (fresh w).heap.size B n n x (fresh w) w2 r' y') := HU2.out.cast (by omega)
      go_wp2_with fail
      refine (behind_any B n n n (2 * n) _ y' _ (by omega) (by omega) (by omega) (by omega) (by omega) (by omega) HUn.out.own.mat).mono ?_
      rintro e w3 ⟨B', r3, rfl, ho, hb⟩
      have HV := Lib.hid ho; have HW := Lib.hid hb; clear ho hb
      go_wp2_with fail
      simp only [Exit.jump]
      go_ret2
      exact HUn.out.fin ⟨B', r3, rfl, HV.out, HW.out⟩
  · clear c0
    rintro a' w' ⟨B, k, r, y, u7, u8, u9, u10, u11, u12, u13, u14, u15, u16, u17, u18, u19, u20, u21, u22, u23, u24, u25, u26, u27, u28, u29, u30, u31, u32, u33, u34, u35, u36, hk, hU, rfl⟩
    have HU := Lib.hid hU; clear hU
    go_wp2_with fail
    by_cases hz : ∀ i, k ≤ i → i < n → y i k = 0
    · have HZ := Lib.hid hz; clear hz
      refine (clear_no w.heap.size (fresh w).heap.size B n (2 * n) k r y _ HU.out.own (by omega) (by omega) (by omega) HZ.out).mono ?_
      rintro e w2 ⟨rfl, rfl⟩
      go_wp2_with fail
      simp only [Exit.jump]
      go_ret2
      exact HU.out.not (by omega) HZ.out
    have hz' : ∃ i, k ≤ i ∧ i < n ∧ y i k ≠ 0 := by
      refine Classical.byContradiction fun hn => hz fun i h1 h2 => Classical.byContradiction fun h3 => hn ⟨i, h1, h2, h3⟩
    have HZ := Lib.hid hz'; clear hz hz'
    refine (clear_yes w.heap.size (fresh w).heap.size B n (2 * n) k r y _ HU.out.own (IsF.old HF0.out HU.out.below) HFl.out (by omega) (by omega) (by omega) (by omega) HU.out.cle HZ.out).mono ?_
    rintro e w2 ⟨rfl, r', y', ho, hre, hcl, hbl⟩
    have HU2 := Lib.hid (HU.out.step ho hre hcl hbl)
    clear ho hre hcl hbl
    by_cases hlt : k + 1 < n
    · have hlt' : (k : Int) + 1 < (n : Int) := by omega
      go_wp2_with fail
      go_step3
      refine ⟨rfl, ⟨B, k + 1, r', y', _, _, _, _, _, _, _, _, _, _, _, _, _, _, _, _, _, _, _, _, _, _, _, _, _, _, _, _, _, _, by omega, HU2.out, rfl⟩, ?_⟩
      simp [muU, intOf]; omega
    · have hge : ¬ (k : Int) + 1 < (n : Int) := by omega
      have HUn : Hid (Und (fresh w).heap.size B n n x (fresh w) w2 r' y') := HU2.out.cast (by omega)
      go_wp2_with fail
      refine (behind_any B n n n (2 * n) _ y' _ (by omega) (by omega) (by omega) (by omega) (by omega) (by omega) HUn.out.own.mat).mono ?_
      rintro e w3 ⟨B', r3, rfl, ho, hb⟩
      have HV := Lib.hid ho; have HW := Lib.hid hb; clear ho hb
      go_wp2_with fail
      simp only [Exit.jump]
      go_ret2
      exact HUn.out.fin ⟨B', r3, rfl, HV.out, HW.out⟩
end Go.Proofs.Ytkgfkchdbbeljaa.Mx

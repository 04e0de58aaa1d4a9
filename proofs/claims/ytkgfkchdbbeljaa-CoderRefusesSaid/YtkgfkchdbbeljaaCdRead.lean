/-
  The texts of pieces, and a piece made again: Read, Again.
-/
import Derived.Test.YtkgfkchdbbeljaaCdMake
import Derived.Test.YtkgfkchdbbeljaaCdFit
import Derived.Test.YtkgfkchdbbeljaaCdSplit
namespace Go.Proofs.Ytkgfkchdbbeljaa.Cd
open Go.ChangeShapes Go.WideShapes Go.ChangeAt Go.RowKit Go.Proofs.Ytkgfkchdbbeljaa.Gf Go.Proofs.Ytkgfkchdbbeljaa.Mx

set_option maxHeartbeats 400000 in
theorem read_bad (c k n fb TB : Nat) (r : Nat → Nat) (x : Nat → Nat → K) (p : Option Addr) (L cl : Nat) (z : Nat → Int) (t : Nat → ByteArray) (w : World) (hL : L ≤ 4096) (hC : IsC w c k n fb TB r x) (hP : Pcs w p L z t) (h : ¬ FitP n L z t) :
    Calls Try.prog 12 #[.pointer (some ⟨c, 0, none⟩), .slice p L cl] w (Nope 1 w) := by
  have HC := Lib.hid hC; have HP := Lib.hid hP; have H := Lib.hid h; clear hC hP h
  go_enter Try.func12, Try.ntmps12
  go_wp2_with fail
  refine (fit_any c n p L cl z t _ hL HC.out.n16 HC.out.cn HP.out).mono ?_
  rintro e w1 ⟨b, rfl, hb, hB⟩
  have HB := Lib.hid hB; clear hB
  cases b with
  | true => exact absurd (hb.1 rfl) H.out
  | false =>
    clear hb
    go_wp2_with fail
    go_ret2
    exact ⟨rfl, HB.out⟩
set_option maxHeartbeats 400000 in
theorem read_few (c k n fb TB : Nat) (r : Nat → Nat) (x : Nat → Nat → K) (p : Option Addr) (L cl : Nat) (z : Nat → Int) (t : Nat → ByteArray) (w : World) (hL : L ≤ 4096) (hC : IsC w c k n fb TB r x) (hP : Pcs w p L z t) (h : FitP n L z t) (hk : L < k) :
    Calls Try.prog 12 #[.pointer (some ⟨c, 0, none⟩), .slice p L cl] w (Nope 5 w) := by
  have HC := Lib.hid hC; have HP := Lib.hid hP; have H := Lib.hid h; clear hC hP h
  have k0 : (L : Int) < (k : Int) := by omega
  go_enter Try.func12, Try.ntmps12
  go_wp2_with fail
  refine (fit_any c n p L cl z t _ hL HC.out.n16 HC.out.cn HP.out).mono ?_
  rintro e w1 ⟨b, rfl, hb, hB⟩
  have HB := Lib.hid hB; clear hB
  cases b with
  | false => exact absurd (hb.2 H.out) (by decide)
  | true =>
    clear hb
    have ck := (HC.out.below HB.out).ck
    go_wp2_with fail
    go_ret2
    exact ⟨rfl, HB.out⟩
/-- What Read answers of k pieces at least that may be. -/
def ReadC (k m : Nat) (x : Nat → Nat → K) (z : Nat → Int) (t : Nat → ByteArray) (w : World) (e : Ending) (w' : World) : Prop :=
  ∃ (y : Nat → Nat → K) (B : Nat), Inv k (fun i j => x (z i).toNat j) y ∧ e = .returned (.tuple #[.slice (some ⟨B, 0, none⟩) k k, .int .i64 0]) ∧ Strs w' (some ⟨B, 0, none⟩) k (pc k m y t) ∧ Below w.heap.size w w'
theorem fit_not {k n L : Nat} {x : Nat → Nat → K} {z : Nat → Int} {t : Nat → ByteArray} (h : FitP n L z t) (hx : Cod k n x) (hk : k ≤ L) (hn : n ≤ 16) : ¬ Sing k (fun i j => x (z i).toNat j) :=
  hx.not_sing (by omega) (z := fun i => (z i).toNat) (fun i hi => by have := h.1 i (by omega); omega) fun i hi j hj e => by
    have h1 := h.1 i (by omega)
    have h2 := h.1 j (by omega)
    have e2 : z i = z j := by omega
    rcases Nat.lt_trichotomy i j with q | q | q
    · exact absurd e2.symm (h.2.1 j (by omega) i q)
    · exact q
    · exact absurd e2 (h.2.1 i (by omega) j q)
set_option maxRecDepth 100000 in
set_option maxHeartbeats 1000000 in
theorem read_yes (c k n fb TB : Nat) (r : Nat → Nat) (x : Nat → Nat → K) (p : Option Addr) (L cl m : Nat) (z : Nat → Int) (t : Nat → ByteArray) (w : World) (hL : L ≤ 4096) (hcl : L ≤ cl) (hC : IsC w c k n fb TB r x) (hP : Pcs w p L z t) (h : FitP n L z t) (hk : k ≤ L) (hm : m ≤ 4096) (hs : (t 0).size = m) :
    Calls Try.prog 12 #[.pointer (some ⟨c, 0, none⟩), .slice p L cl] w (ReadC k m x z t w) := by
  have hk1 := hC.k1; have hkn := hC.kn; have hn16 := hC.n16
  have HC := Lib.hid hC; have HP := Lib.hid hP; have H := Lib.hid h; clear hC hP h
  have HZ : Hid (∀ j, j < k → (t j).size = m) := fun j hj => by rw [← hs]; exact H.out.2.2 j (by omega)
  clear hs
  obtain ⟨B, O, hp, _⟩ := HP.out (by omega)
  subst hp
  have k0 : decide ((L : Int) < (k : Int)) = false := by simp; omega
  have k0' : decide (L < k) = false := by simp; omega
  have k1 : (k : Int) ≤ (cl : Int) := by omega
  go_enter Try.func12, Try.ntmps12
  go_wp2_with fail
  refine (fit_any c n _ L cl z t _ hL hn16 HC.out.cn HP.out).mono ?_
  rintro e w1 ⟨b, rfl, hb, hB⟩
  have HB := Lib.hid hB; clear hB
  cases b with
  | false => exact absurd (hb.2 H.out) (by decide)
  | true =>
    clear hb
    have ck := (HC.out.below HB.out).ck
    have ct := (HC.out.below HB.out).ct
    go_wp2_with fail
    refine (split_any _ k _ z t _ (by omega) ((HP.out.below HB.out).less hk)).mono ?_
    rintro e w2 ⟨N, T, rfl, hI, hS, hB2⟩
    have HI := Lib.hid hI; have HS := Lib.hid hS; have HB2 := Lib.hid (Below.next HB.out hB2); clear hI hS hB2
    have ct2 := (HC.out.below HB2.out).ct
    clear ck ct
    go_wp2_with fail
    refine (pick_any TB 0 n k _ _ _ _ x _ k _ z _ (by omega) (by omega) (by omega) (by omega) (by omega) (by omega) (HC.out.below HB2.out).mat HI.out).mono ?_
    rintro e w3 ⟨hy, _⟩
    obtain ⟨B3, r3, rfl, ho3, hb3⟩ := hy (fun i hi => H.out.1 i (by omega))
    have HM3 := Lib.hid ho3.mat; have HS3 := Lib.hid (HS.out.below hb3); have HB3 := Lib.hid (Below.next HB2.out hb3); clear ho3 hb3 hy HI HS ct2
    go_wp2_with fail
    refine (undo_any B3 0 k _ _ _ _ _ _ (by omega) (by omega) HM3.out).mono ?_
    rintro e w4 (⟨y, hy, B4, r4, rfl, ho4, hb4⟩ | ⟨hs, _⟩)
    · have HY := Lib.hid hy; have HM4 := Lib.hid ho4.mat; have HS4 := Lib.hid (HS3.out.below hb4); have HB4 := Lib.hid (Below.next HB3.out hb4); clear hy ho4 hb4 HS3 HM3
      have HC4 := Lib.hid (HC.out.below HB4.out)
      go_wp2_with fail
      refine (multiply_any c fb B4 0 k k m _ T 0 _ _ _ _ y t _ (by omega) (by omega) (by omega) hm HC4.out.cf HC4.out.isf HM4.out HS4.out HZ.out).mono ?_
      rintro e w5 ⟨B5, rfl, hr, _, hb5⟩
      have HR := Lib.hid hr; have HB5 := Lib.hid (Below.next HB4.out hb5); clear hr hb5
      go_wp2_with fail
      go_ret2
      exact ⟨y, B5, HY.out, rfl, Strs.row HR.out, HB5.out⟩
    · exact absurd hs (fit_not H.out HC.out.cod hk hn16)
/-- No text, and an error. -/
def NopeS (v : Int) (w : World) (e : Ending) (w' : World) : Prop := e = .returned (.tuple #[.string ⟨#[]⟩, .int .i64 v]) ∧ Below w.heap.size w w'
set_option maxHeartbeats 400000 in
theorem again_bad (c k n fb TB : Nat) (r : Nat → Nat) (x : Nat → Nat → K) (p : Option Addr) (L cl : Nat) (z : Nat → Int) (t : Nat → ByteArray) (a : Int) (w : World) (hL : L ≤ 4096) (hC : IsC w c k n fb TB r x) (hP : Pcs w p L z t) (h : ¬ FitP n L z t) :
    Calls Try.prog 13 #[.pointer (some ⟨c, 0, none⟩), .slice p L cl, .int .i64 a] w (NopeS 1 w) := by
  have HC := Lib.hid hC; have HP := Lib.hid hP; have H := Lib.hid h; clear hC hP h
  go_enter Try.func13, Try.ntmps13
  go_wp2_with fail
  refine (read_bad c k n fb TB r x p L cl z t _ hL HC.out HP.out H.out).mono ?_
  rintro e w1 ⟨rfl, hB⟩
  have HB := Lib.hid hB; clear hB
  go_wp2_with fail
  go_ret2
  exact ⟨rfl, HB.out⟩
set_option maxHeartbeats 400000 in
theorem again_few (c k n fb TB : Nat) (r : Nat → Nat) (x : Nat → Nat → K) (p : Option Addr) (L cl : Nat) (z : Nat → Int) (t : Nat → ByteArray) (a : Int) (w : World) (hL : L ≤ 4096) (hC : IsC w c k n fb TB r x) (hP : Pcs w p L z t) (h : FitP n L z t) (hk : L < k) :
    Calls Try.prog 13 #[.pointer (some ⟨c, 0, none⟩), .slice p L cl, .int .i64 a] w (NopeS 5 w) := by
  have HC := Lib.hid hC; have HP := Lib.hid hP; have H := Lib.hid h; clear hC hP h
  go_enter Try.func13, Try.ntmps13
  go_wp2_with fail
  refine (read_few c k n fb TB r x p L cl z t _ hL HC.out HP.out H.out hk).mono ?_
  rintro e w1 ⟨rfl, hB⟩
  have HB := Lib.hid hB; clear hB
  go_wp2_with fail
  go_ret2
  exact ⟨rfl, HB.out⟩
set_option maxHeartbeats 400000 in
theorem again_out (c k n fb TB : Nat) (r : Nat → Nat) (x : Nat → Nat → K) (p : Option Addr) (L cl m : Nat) (z : Nat → Int) (t : Nat → ByteArray) (a : Int) (w : World) (hL : L ≤ 4096) (hcl : L ≤ cl) (hC : IsC w c k n fb TB r x) (hP : Pcs w p L z t) (h : FitP n L z t) (hk : k ≤ L) (hm : m ≤ 4096) (hs : (t 0).size = m) (ha : a < 0 ∨ (n : Int) ≤ a) :
    Calls Try.prog 13 #[.pointer (some ⟨c, 0, none⟩), .slice p L cl, .int .i64 a] w (NopeS 1 w) := by
  have HC := Lib.hid hC; have HP := Lib.hid hP; have H := Lib.hid h; have HS := Lib.hid hs; have HA := Lib.hid ha; clear hC hP h hs ha
  go_enter Try.func13, Try.ntmps13
  go_wp2_with fail
  refine (read_yes c k n fb TB r x p L cl m z t _ hL hcl HC.out HP.out H.out hk hm HS.out).mono ?_
  rintro e w1 ⟨y, B, _, rfl, _, hB⟩
  have HB := Lib.hid hB; clear hB
  have HCN := Lib.hid (HC.out.below HB.out).cn
  go_wp2_with fail
  refine (numbered_no c n a _ HCN.out HA.out).mono ?_
  rintro e w2 ⟨rfl, hw⟩
  obtain rfl : w1 = w2 := hw.symm
  go_wp2_with fail
  go_ret2
  exact ⟨rfl, HB.out⟩
/-- What Again answers of k pieces at least that may be, and a number that may be. -/
def AgainC (k m : Nat) (x : Nat → Nat → K) (z : Nat → Int) (t : Nat → ByteArray) (a : Nat) (w : World) (e : Ending) (w' : World) : Prop :=
  ∃ (y : Nat → Nat → K), Inv k (fun i j => x (z i).toNat j) y ∧ e = .returned (.tuple #[.string (pc k m x (pc k m y t) a), .int .i64 0]) ∧ Below w.heap.size w w'
set_option maxRecDepth 100000 in
set_option maxHeartbeats 1000000 in
theorem again_yes (c k n fb TB : Nat) (r : Nat → Nat) (x : Nat → Nat → K) (p : Option Addr) (L cl m : Nat) (z : Nat → Int) (t : Nat → ByteArray) (a : Nat) (w : World) (hL : L ≤ 4096) (hcl : L ≤ cl) (hC : IsC w c k n fb TB r x) (hP : Pcs w p L z t) (h : FitP n L z t) (hk : k ≤ L) (hm : m ≤ 4096) (hs : (t 0).size = m) (ha : a < n) :
    Calls Try.prog 13 #[.pointer (some ⟨c, 0, none⟩), .slice p L cl, .int .i64 (a : Int)] w (AgainC k m x z t a w) := by
  have hk1 := hC.k1; have hkn := hC.kn; have hn16 := hC.n16
  have HC := Lib.hid hC; have HP := Lib.hid hP; have H := Lib.hid h; have HS := Lib.hid hs; clear hC hP h hs
  go_enter Try.func13, Try.ntmps13
  go_wp2_with fail
  refine (read_yes c k n fb TB r x p L cl m z t _ hL hcl HC.out HP.out H.out hk hm HS.out).mono ?_
  rintro e w1 ⟨y, B, hy, rfl, hS, hB⟩
  have HB := Lib.hid hB; have HY := Lib.hid hy; have HS1 := Lib.hid hS; clear hB hy hS
  have HC1 := Lib.hid (HC.out.below HB.out)
  go_wp2_with fail
  refine (numbered_yes c n a _ HC1.out.cn (by omega) (by omega)).mono ?_
  rintro e w2 ⟨rfl, hw⟩
  obtain rfl : w1 = w2 := hw.symm
  clear hw
  have ct := HC1.out.ct
  have hne : ¬ n = a := by omega
  have a1 : (a : Int) + 1 ≤ (n : Int) := by omega
  have a2 : a + 1 ≤ n := by omega
  have HM := Lib.hid (mat_from HC1.out.mat a 1 (by omega))
  go_wp2_with fail
  refine (multiply_any c fb TB a 1 k m _ B 0 _ _ _ _ (fun i j => x (a + i) j) (pc k m y t) _ (by omega) (by omega) (by omega) hm HC1.out.cf HC1.out.isf HM.out HS1.out (fun j _ => pc_size _ _ _ _ _)).mono ?_
  rintro e w5 ⟨B5, rfl, hr, _, hb5⟩
  have hc0 := hr.cell (i := 0) (by omega)
  have HB5 := Lib.hid (Below.next HB.out hb5)
  clear hr hb5 ct
  have HE : Hid (pc k m (fun i j => x (a + i) j) (pc k m y t) 0 = pc k m x (pc k m y t) a) := pc_congr (fun j _ => rfl) (fun _ _ => rfl)
  rw [HE.out] at hc0
  generalize hg : pc k m x (pc k m y t) a = s at *
  have HG := Lib.hid hg; clear hg
  go_wp2_with fail
  go_ret2
  exact ⟨y, HY.out, by rw [HG.out]; rfl, HB5.out⟩
end Go.Proofs.Ytkgfkchdbbeljaa.Cd

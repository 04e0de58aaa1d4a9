/-
  Proved: for every input the law GfDots returns true, and leaves its arguments as they were. No condition.
-/
import Derived.Test.YtdakempjmnpknaaRows
import Derived.WalkKit
import Derived.ProofKit
import Derived.OpenShut
import Derived.ShutString
import Derived.ChangeOld
import Derived.Below
import Derived.Test.YtdakempjmnpknaaGfDot
namespace Go.Proofs.Ytdakempjmnpknaa.gfDots
open Go.ChangeShapes Go.WideShapes Go.ChangeAt Go.RowKit
open Go.ChangeMaps (open_string shut_string)
set_option linter.unusedVariables false

theorem own : ownKnob Try.prog.godebug = none := by kernel_rfl
theorem laidOut : laidOutB Try.prog = true := by kernel_rfl

/-- WHAT THE WALK IS TOLD OF A SLICE OF INTEGERS THAT CAME IN: it is nil; or it leads to a row of 'cap' cells, the numbers 'zs' (the first 'len' are its elements, the rest its spare room), each fitting its kind. -/
def IsRow (k : IntKind) (w : World) (a : Option Addr) (len cap : Nat) (zs : List Int) : Prop :=
  (a = none ∧ len = 0 ∧ cap = 0 ∧ zs = []) ∨
  ∃ x, a = some x ∧ len ≤ cap ∧ cap ≤ maxLen ∧ zs.length = cap ∧ (∀ i, i < zs.length → w.cell? (x.add i) = some (.int k (zs.getD i 0))) ∧ ∀ n ∈ zs, (Lit.int k n).wf = true

open Go.Proofs.Ytdakempjmnpknaa.Gf
theorem row_bytes {w : World} {a : Option Addr} {len cap : Nat} {z : List Int} (h : IsRow .u8 w a len cap z) (hl : 0 < len) :
    ∃ b off, a = some ⟨b, off, none⟩ ∧ b < w.heap.size ∧ Bytes w b off len (fun i => (z.getD i 0).toNat) := by
  rcases h with ⟨_, h, _, _⟩ | ⟨x, rfl, h1, h2, h3, h4, h5⟩
  · omega
  · obtain ⟨b, off, rfl, hc⟩ := ints_at h4 (by omega)
    refine ⟨b, off, rfl, ?_, fun i hi => ?_⟩
    · have := hc 0 (by omega)
      exact block_lt_of_cell this
    · have hm : z.getD i 0 ∈ z := by
        have e : z.getD i 0 = z[i]'(by omega) := by simp [List.getD, show i < z.length from by omega]
        rw [e]; exact List.getElem_mem _
      have hz := u8_bd (h5 (z.getD i 0) hm)
      show w.cell? _ = some (.int .u8 ((z.getD i 0).toNat : Int)) ∧ (z.getD i 0).toNat < 256
      refine ⟨?_, by omega⟩
      rw [hc i (by omega)]
      congr 2; omega
theorem fresh_below (w : World) : Below w.heap.size w (fresh w) := (Below.refl _ _).alloc (Nat.le_refl _) _
theorem fresh2_below (w : World) : Below w.heap.size w (fresh (fresh w)) := (fresh_below w).trans ((fresh_below (fresh w)).mono (by simp [fresh]))
theorem below_drewN {B : Nat} {w w' : World} (h : Below B w w') (m : Nat) : Below B w (w'.drewN m) := ⟨h.os, h.tape, h.output, h.size, h.block⟩
theorem refmul_same (a b : Nat) (ha : a < 256) (hb : b < 256) (w : World) :
    Calls Try.prog 18 #[.int .i64 (a : Int), .int .i64 (b : Int)] w fun e w' => e = .returned (.int .i64 (gm a b : Nat)) ∧ w' = w :=
  (refmul_any a b ha hb w).mono fun _ _ ⟨he, hw⟩ => ⟨he, hw.symm⟩
set_option maxRecDepth 100000 in
set_option maxHeartbeats 1000000 in
theorem large (p q : Option Addr) (n cn m cm : Nat) (w : World) (h : 100 < n ∨ 100 < m) :
    Calls Try.prog 6 #[.slice p n cn, .slice q m cm] w fun e w' => e = .returned (.bool true) ∧ Below w.heap.size w w' := by
  by_cases hn : 100 < n
  · clear h
    go_enter Try.func6, Try.ntmps6
    go_wp2_with fail
    refine (awake_any _).mono ?_
    rintro e w' ⟨rfl, m1, rfl⟩
    go_wp2_with fail
    refine (awake_any _).mono ?_
    rintro e w' ⟨rfl, m2, rfl⟩
    rw [fresh_drewN]
    go_wp2_with fail
    go_ret
    exact ⟨rfl, below_drewN (fresh2_below w) _⟩
  · have hm : 100 < m := by omega
    clear h
    go_enter Try.func6, Try.ntmps6
    go_wp2_with fail
    refine (awake_any _).mono ?_
    rintro e w' ⟨rfl, m1, rfl⟩
    go_wp2_with fail
    refine (awake_any _).mono ?_
    rintro e w' ⟨rfl, m2, rfl⟩
    rw [fresh_drewN]
    go_wp2_with fail
    go_ret
    exact ⟨rfl, below_drewN (fresh2_below w) _⟩
set_option maxRecDepth 100000 in
set_option maxHeartbeats 1000000 in
theorem unlike (p q : Option Addr) (n cn m cm : Nat) (w : World) (hn : n ≤ 100) (hm : m ≤ 100) (h : n ≠ m) :
    Calls Try.prog 6 #[.slice p n cn, .slice q m cm] w fun e w' => e = .returned (.bool true) ∧ Below w.heap.size w w' := by
  have t : ((n : Int) != (m : Int)) = true := by simp; omega
  have t' : (n != m) = true := by simpa using h
  go_enter Try.func6, Try.ntmps6
  go_wp2_with fail
  refine (awake_any _).mono ?_
  rintro e w' ⟨rfl, m1, rfl⟩
  go_wp2_with fail
  refine (new_fresh _).mono ?_
  rintro e w' ⟨rfl, rfl⟩
  rw [fresh_drewN]
  go_wp2_with fail
  refine (dot_unlike _ _ _ _ _ _ _ _ h).mono ?_
  rintro e w' ⟨rfl, rfl⟩
  go_wp2_with fail
  go_ret
  exact ⟨rfl, below_drewN (fresh2_below w) _⟩
set_option maxRecDepth 100000 in
set_option maxHeartbeats 1000000 in
theorem empty (p q : Option Addr) (cn cm : Nat) (w : World) :
    Calls Try.prog 6 #[.slice p 0 cn, .slice q 0 cm] w fun e w' => e = .returned (.bool true) ∧ Below w.heap.size w w' := by
  go_enter Try.func6, Try.ntmps6
  go_wp2_with fail
  refine (awake_any _).mono ?_
  rintro e w' ⟨rfl, m1, rfl⟩
  go_wp2_with fail
  refine (new_fresh _).mono ?_
  rintro e w' ⟨rfl, rfl⟩
  rw [fresh_drewN]
  go_wp2_with fail
  refine (dot_none _ _ _ _ _ _).mono ?_
  rintro e w' ⟨rfl, rfl⟩
  go_wp2_with fail
  go_loop [7, 8] (fun S I => S = .int .i64 0 ∧ I = .int .i64 0) (fun _ _ => 0)
  case atStart => exact ⟨rfl, rfl⟩
  case round =>
    obtain ⟨rfl, rfl⟩ := hrel
    go_wp2
    go_ret
    exact ⟨rfl, below_drewN (fresh2_below w) _⟩
def RelG (x y : Nat → Nat) (n : Nat) (w : World) (S I : Value) (wr : World) : Prop := ∃ k m : Nat, k ≤ n ∧ S = .int .i64 (dotN x y k : Nat) ∧ I = .int .i64 (k : Int) ∧ wr = w.drewN m
set_option maxRecDepth 100000 in
set_option maxHeartbeats 1000000 in
theorem alike (b c ob oc n cn cm : Nat) (x y : Nat → Nat) (w : World) (hn : n ≤ 100) (lb : b < w.heap.size) (lc : c < w.heap.size) (hx : Bytes w b ob n x) (hy : Bytes w c oc n y) :
    Calls Try.prog 6 #[.slice (some ⟨b, ob, none⟩) n cn, .slice (some ⟨c, oc, none⟩) n cm] w fun e w' => e = .returned (.bool true) ∧ Below w.heap.size w w' := by
  have hz : (fresh w).heap.size = w.heap.size + 1 := by simp [fresh]
  have HX := Lib.hid ((hx.alloc lb (.cells (T 255) 43)).alloc (show b < (fresh w).heap.size from by omega) (.cells (T 255) 43))
  have HY := Lib.hid ((hy.alloc lc (.cells (T 255) 43)).alloc (show c < (fresh w).heap.size from by omega) (.cells (T 255) 43))
  have HF : Hid (IsF (fresh (fresh w)) (w.heap.size + 1)) := by have := fresh_F (fresh w); rwa [hz] at this
  have HZ := Lib.hid hz
  clear hx hy lb lc hz
  go_enter Try.func6, Try.ntmps6
  go_wp2_with fail
  refine (awake_any _).mono ?_
  rintro e w' ⟨rfl, m1, rfl⟩
  go_wp2_with fail
  refine (new_fresh _).mono ?_
  rintro e w' ⟨rfl, rfl⟩
  rw [fresh_drewN, World.heap_drewN, HZ.out]
  go_wp2_with fail
  refine (dot_some (w.heap.size + 1) b c ob oc n cn cm x y _ (by omega) (HF.out.drewN _) (Bytes.drewN HX.out _) (Bytes.drewN HY.out _)).mono ?_
  rintro e w' ⟨rfl, m2, rfl⟩
  have ld := dotN_lt x y n
  go_wp2_with fail
  go_loopw [7, 8] (fun S I wr => RelG x y n (fresh (fresh w)) S I wr) (fun _ I _ => n - (intOf I).toNat)
  case atStart => exact ⟨0, _, by omega, rfl, rfl, rfl⟩
  case round =>
    clear ld
    obtain ⟨k, m, hk, rfl, rfl, rfl⟩ := hrel
    by_cases hlt : k < n
    · obtain ⟨cx, lx⟩ := (Bytes.drewN HX.out m) k hlt
      obtain ⟨cy, ly⟩ := (Bytes.drewN HY.out m) k hlt
      have ls := dotN_lt x y k
      have HS : Hid (dotN x y (k + 1) = dotN x y k ^^^ gm (x k) (y k)) := rfl
      have lg := gm_lt (x k) (y k)
      have cx' : ((fresh (fresh w)).drewN m).cell? ⟨b, ob + k, none⟩ = some (.int .u8 (x k : Nat)) := cx
      have cy' : ((fresh (fresh w)).drewN m).cell? ⟨c, oc + k, none⟩ = some (.int .u8 (y k : Nat)) := cy
      clear cx cy
      generalize hw : (fresh (fresh w)).drewN m = w1 at *
      have HW := Lib.hid hw; clear hw
      generalize dotN x y k = s at *
      generalize x k = u at *
      generalize y k = v at *
      have k0 : (k : Int) < (n : Int) := by omega
      have HB := Lib.hid (i64_xor s (gm u v) (by omega) (by omega))
      go_wp2_with fail
      go_quiet ((go_at_call 18; exact Calls.quiet_of_same (refmul_same u v lx ly _)))
      go_wp2
      go_roundw
      case rel => exact ⟨k + 1, _, by omega, by rw [HS.out, HB.out], by go_num, by rw [← HW.out, World.drewN_drewN]⟩
      case measure => simp [intOf]; omega
    · obtain rfl : k = n := by omega
      have ls := dotN_lt x y k
      go_wp2
      go_ret
      exact ⟨rfl, below_drewN (fresh2_below w) _⟩
/-! ### STEP 1: THE WALK: the Go text returns true, AND WRITES NOTHING THAT WAS THERE: 'Below w.heap.size w w'' (Derived/Below.lean: '.refl', '.alloc', '.drew', '.setCell' at a new block, '.trans'). Open each 'IsRow' by 'rcases' AHEAD of 'go_enter'; part every test ahead of the walk. -/
theorem walk (a0 : Option Addr) (len0 cap0 : Nat) (z0 : List Int) (a1 : Option Addr) (len1 cap1 : Nat) (z1 : List Int) (w : World) (w0 : IsRow .u8 w a0 len0 cap0 z0) (w1 : IsRow .u8 w a1 len1 cap1 z1) :
    Calls Try.prog 6 #[.slice a0 len0 cap0, .slice a1 len1 cap1] w fun e w' => e = .returned (.bool true) ∧ Below w.heap.size w w' := by
  by_cases hL : 100 < len0 ∨ 100 < len1
  · exact large a0 a1 len0 cap0 len1 cap1 w hL
  by_cases hne : len0 = len1
  · subst hne
    by_cases hz : len0 = 0
    · subst hz; exact empty a0 a1 cap0 cap1 w
    · obtain ⟨b, ob, rfl, lb, hb⟩ := row_bytes w0 (by omega)
      obtain ⟨c, oc, rfl, lc, hc⟩ := row_bytes w1 (by omega)
      exact alike b c ob oc len0 cap0 cap1 _ _ w (by omega) lb lc hb hc
  · exact unlike a0 a1 len0 cap0 len1 cap1 w (by omega) (by omega) hne

/-! ### THE ROW's STEP: WRITTEN OUT: LEAVE IT -/
set_option maxRecDepth 100000 in
theorem lifted (os : Os) (started : os.Started) (H : Type) (enc : TypeId × Value → H) :
    ReturnsInHanded {} Try.checked os 6 .any (Rows.gfDotsSpec.pre6 enc Try.prog Try.f6 Rows.gfDotsRow.domain false) (Rows.gfDotsSpec.post enc Try.prog Try.f6 false true false false) := by
  refine returnsInHanded_of_change (C := Try.checked) own started (by kernel_rfl) Try.func6
    (ChangeSpec.witness6 (enc := enc) (C := Try.checked) false ⟨#[], #[.slice none 0 0, .slice none 0 0], []⟩ 8 (by kernel_rfl) (by kernel_rfl) (by kernel_rfl) (by kernel_rfl)) ?_
  intro W base args ds gs before hval0 hW hcnd _
  have hval : ∀ (j : Nat) t v, Try.f6.params[j]? = some t → args[j]? = some v → Value.okWide Try.prog W .any base t v := hval0
  have hW' := hW
  obtain ⟨p, q, hA0, hV, rfl, hfz, hnd⟩ := hW
  have hA : DataW.TrodAll enc Try.prog W 0 (fun _ => true) true Try.f6.params.toList args.toList ds p := hA0
  rw [Try.params6] at hA hval
  obtain ⟨v0, vs0, d0, ds0, p0, q0, hargs, rfl, rfl, h0, r0⟩ := trodAll_cons hA
  obtain ⟨v1, vs1, d1, ds1, p1, q1, rfl, rfl, rfl, h1, r1⟩ := trodAll_cons r0
  obtain ⟨rfl, rfl, rfl⟩ := trodAll_nil r1
  obtain rfl : args = #[v0, v1] := by cases args; simp_all
  obtain ⟨rfl, rfl⟩ := trodVars_none hV
  obtain ⟨a0, len0, cap0, rfl⟩ := okWide_slice Try.underlying37 (hval 0 37 v0 rfl rfl)
  have k0 := h0
  have lt0 : ∀ x ∈ p0, x.block < W.heap.size := by obtain ⟨m, hm⟩ := k0; exact DataW.trod_lt m _ _ _ hm
  obtain ⟨z0, w0⟩ : ∃ zs, IsRow .u8 W a0 len0 cap0 zs := by
    obtain ⟨fuel, hf⟩ := h0
    rcases open_ints Try.underlying37 Try.underlying5 (by kernel_rfl) hf with ⟨hcs, _⟩ | ⟨x, l, c, zs, hcs, _, hl, hm, hz, _, hcell, hwz⟩
    · simp [Value.cells] at hcs
      obtain ⟨rfl, rfl, rfl⟩ := hcs
      exact ⟨[], .inl ⟨rfl, rfl, rfl, rfl⟩⟩
    · simp [Value.cells] at hcs
      obtain ⟨rfl, rfl, rfl⟩ := hcs
      exact ⟨zs, .inr ⟨_, rfl, hl, hm, by simpa using hz, hcell, hwz⟩⟩
  obtain ⟨a1, len1, cap1, rfl⟩ := okWide_slice Try.underlying37 (hval 1 37 v1 rfl rfl)
  have k1 := h1
  have lt1 : ∀ x ∈ p1, x.block < W.heap.size := by obtain ⟨m, hm⟩ := k1; exact DataW.trod_lt m _ _ _ hm
  obtain ⟨z1, w1⟩ : ∃ zs, IsRow .u8 W a1 len1 cap1 zs := by
    obtain ⟨fuel, hf⟩ := h1
    rcases open_ints Try.underlying37 Try.underlying5 (by kernel_rfl) hf with ⟨hcs, _⟩ | ⟨x, l, c, zs, hcs, _, hl, hm, hz, _, hcell, hwz⟩
    · simp [Value.cells] at hcs
      obtain ⟨rfl, rfl, rfl⟩ := hcs
      exact ⟨[], .inl ⟨rfl, rfl, rfl, rfl⟩⟩
    · simp [Value.cells] at hcs
      obtain ⟨rfl, rfl, rfl⟩ := hcs
      exact ⟨zs, .inr ⟨_, rfl, hl, hm, by simpa using hz, hcell, hwz⟩⟩
  clear hA0 hval0
  refine (walk a0 len0 cap0 z0 a1 len1 cap1 z1 W w0 w1).mono fun e W' ⟨he, bel⟩ => ?_
  subst he
  exact ⟨_, rfl, _, _, _, [], _, [], hW', trodAll_mk1 (shut_bool Try.underlying4 _), (trodAll_cons_mk (Below.trod laidOut (by kernel_rfl) (of_decide_eq_true (by kernel_rfl)) k0 bel lt0) (trodAll_cons_mk (Below.trod laidOut (by kernel_rfl) (of_decide_eq_true (by kernel_rfl)) k1 bel lt1) trodAll_mk0)), rfl, bel.frame _, fun h => by cases h⟩

theorem over : Rows.gfDotsRow.holds Try.pinned (OpenSpec.ofChange Rows.gfDotsSpec) :=
  OpenClaim.holds_of_wide 6 Try.f6 rfl rfl rfl rfl rfl rfl rfl ⟨rfl, rfl, rfl, rfl, rfl⟩ rfl rfl rfl rfl rfl (by kernel_rfl) Try.func6 (by kernel_rfl)
    (of_decide_eq_true (by kernel_rfl)) (by unfold Func.isWrapper; first | (rw [if_pos (by decide +kernel)]; kernel_rfl) | (rw [if_neg (by decide +kernel)]; exact ⟨rfl, rfl⟩))
    (fun os started H enc _ => lifted os started H enc)

/-- ████ THE STATEMENT ████ -/
theorem proved : Rows.GfDotsSaid := over
#print axioms proved
end Go.Proofs.Ytdakempjmnpknaa.gfDots

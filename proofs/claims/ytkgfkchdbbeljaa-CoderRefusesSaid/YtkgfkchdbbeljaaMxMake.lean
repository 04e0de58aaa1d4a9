/-
  Calls that make rows: turn.
-/
import Derived.Test.YtkgfkchdbbeljaaMxRight
namespace Go.Proofs.Ytkgfkchdbbeljaa.Mx
open Go.ChangeShapes Go.WideShapes Go.ChangeAt Go.RowKit Go.Proofs.Ytkgfkchdbbeljaa.Gf

/-- What a call that makes rows, and says something more, answers. -/
def Made2 (n m : Nat) (x : Nat → Nat → K) (v : Value) (w : World) (e : Ending) (w' : World) : Prop :=
  ∃ (B : Nat) (r : Nat → Nat), e = .returned (.tuple #[.slice (some ⟨B, 0, none⟩) n n, v]) ∧ Own w' w.heap.size B n m r x ∧ Below w.heap.size w w'
/-- Rows of one's own, so far as they are filled. -/
def Fil (w : World) (B n m : Nat) (r : Nat → Nat) (x : Nat → Nat → K) (wr : World) : Prop := Own wr w.heap.size B n m r x ∧ Below w.heap.size w wr
theorem Fil.set {w : World} {B n m : Nat} {r : Nat → Nat} {x y : Nat → Nat → K} {wr : World} (h : Fil w B n m r x wr) {i : Nat} (hi : i < n) (j : Nat) (v : K) (e : ∀ a, a < n → ∀ b, b < m → upd x i j v a b = y a b) :
    Fil w B n m r y (wr.setCell ⟨r i, j, none⟩ (.int .u8 (v.n : Int))) := ⟨(h.1.set hi j v).congr e, h.2.setCell (h.1.los i hi) _⟩
theorem Fil.congr {w : World} {B n m : Nat} {r : Nat → Nat} {x y : Nat → Nat → K} {wr : World} (h : Fil w B n m r x wr) (e : ∀ a, a < n → ∀ b, b < m → x a b = y a b) : Fil w B n m r y wr := ⟨h.1.congr e, h.2⟩
theorem Fil.drewN {w : World} {B n m : Nat} {r : Nat → Nat} {x : Nat → Nat → K} {wr : World} (h : Fil w B n m r x wr) (k : Nat) : Fil w B n m r x (wr.drewN k) := ⟨h.1.drewN k, below_drewN h.2 k⟩
def RelTo (w : World) (B n m : Nat) (r : Nat → Nat) (z : Nat → Nat → K) (I : Value) (wr : World) : Prop := ∃ k : Nat, k ≤ m ∧ I = .int .i64 (k : Int) ∧ Fil w B n m r (fillCol z k 0) wr
def RelTi (w : World) (B n m : Nat) (r : Nat → Nat) (z : Nat → Nat → K) (k : Nat) (I : Value) (wr : World) : Prop := ∃ l : Nat, l ≤ n ∧ I = .int .i64 (l : Int) ∧ Fil w B n m r (fillCol z k l) wr
set_option maxRecDepth 100000 in
set_option maxHeartbeats 1000000 in
theorem turn_any (P O n m cn : Nat) (b o c : Nat → Nat) (x : Nat → Nat → K) (w : World) (hn : 0 < n) (hn' : n ≤ 64) (hm' : m ≤ 64) (hM : Mat w P O n m b o c x) :
    Calls Try.prog 38 #[.slice (some ⟨P, O, none⟩) n cn] w (Made m n (fun i j => x j i) w) := by
  have c0 := hM.top0 hn
  have HM := Lib.hid hM; clear hM
  have n0 : (0 : Int) < (n : Int) := by omega
  go_enter Try.func38, Try.ntmps38
  go_wp2_with fail
  refine (blank_any m n (by omega) (by omega) _).mono ?_
  rintro e w1 ⟨B, r, rfl, ho, hb⟩
  have HO : Hid (Fil w B m n r (fillCol (fun i j => x j i) 0 0) w1) := ⟨ho.congr fun a _ b _ => (fillc_start _ _ _).symm, hb⟩
  clear ho hb c0
  go_wp2_with fail
  go_loopw [17] (fun I wr => RelTo w B m n r (fun i j => x j i) I wr) (fun I _ => n - (intOf I).toNat)
  case atStart => exact ⟨0, by omega, rfl, HO.out⟩
  case round =>
    clear HO
    obtain ⟨k, hk, rfl, hF⟩ := hrel
    have HF := Lib.hid hF; clear hF
    by_cases hlt : k < n
    · have ct := (HM.out.below HF.out.2).top k hlt
      have k0 : (k : Int) < (n : Int) := by omega
      go_wp2
      clear ct
      go_loopw [24] (fun I wi => RelTi w B m n r (fun i j => x j i) k I wi) (fun I _ => m - (intOf I).toNat)
      case atStart => exact ⟨0, by omega, rfl, HF.out⟩
      case round =>
        clear HF
        obtain ⟨l, hl, rfl, hF⟩ := hrel
        have HF := Lib.hid hF; clear hF
        by_cases hll : l < m
        · have cx := (HM.out.below HF.out.2).row k hlt l hll
          have ct := HF.out.1.top.cell hll
          have cr := (HF.out.1.row l hll).cell hlt
          have fr := (HF.out.1.row l hll).frozen k
          have l0 : (l : Int) < (m : Int) := by omega
          have HS := Lib.hid (HF.out.set hll k (x k l) fun a _ b _ => fillc_step (fun i j => x j i) k l a b)
          generalize x k l = u at *
          go_wp2
          go_roundw
          case rel => exact ⟨l + 1, by omega, by go_num, HS.out⟩
          case measure => simp [intOf]; omega
        · obtain rfl : l = m := by omega
          go_wp2
          go_roundw
          case rel => exact ⟨k + 1, by omega, by go_num, HF.out.congr fun a ha b _ => fillc_col _ _ _ _ _ ha⟩
          case measure => simp [intOf]; omega
    · obtain rfl : k = n := by omega
      go_wp2
      go_ret
      exact ⟨B, r, rfl, HF.out.1.congr fun a _ b hb => fillc_done _ _ _ _ hb, HF.out.2⟩
end Go.Proofs.Ytkgfkchdbbeljaa.Mx

/-
  What is done to one row in place: divide, addTimes; where a column has a row to clear with: findLead.
-/
import Derived.Test.YtkgfkchdbbeljaaMxPick
import Derived.Deep.RegionWith
namespace Go.Proofs.Ytkgfkchdbbeljaa.Mx
open Go.ChangeShapes Go.WideShapes Go.ChangeAt Go.RowKit Go.Proofs.Ytkgfkchdbbeljaa.Gf

/-- A row of m bytes, in a block of its own. -/
def RowK (w : World) (g m : Nat) (x : Nat → K) : Prop := w.rowIs g 5 m (fun j => .int .u8 ((x j).n : Int))
theorem RowK.congr {w : World} {g m : Nat} {x y : Nat → K} (h : RowK w g m x) (e : ∀ j, j < m → x j = y j) : RowK w g m y := World.rowIs.congr h fun j hj => by rw [e j hj]
/-- A row has turned in place, and nothing else. -/
def Turned (g m : Nat) (y : Nat → K) (w : World) (e : Ending) (w' : World) : Prop := e = .returned (.tuple #[]) ∧ But g w w' ∧ RowK w' g m y
/-- The first k bytes have turned. -/
def part (x y : Nat → K) (k j : Nat) : K := if j < k then y j else x j
theorem RowK.set {w : World} {g m : Nat} {x y : Nat → K} {k : Nat} (h : RowK w g m (part x y k)) : RowK (w.setCell ⟨g, k, none⟩ (.int .u8 ((y k).n : Int))) g m (part x y (k + 1)) :=
  (World.rowIs.set h k (.int .u8 ((y k).n : Int))).congr fun j hj => by
    unfold part
    by_cases e : j = k
    · subst e; rw [if_pos rfl, if_pos (by omega)]
    · rw [if_neg e]
      by_cases e2 : j < k
      · rw [if_pos e2, if_pos (by omega)]
      · rw [if_neg e2, if_neg (by omega)]
def RelRow (w : World) (g m : Nat) (x y : Nat → K) (I : Value) (wr : World) : Prop := ∃ k : Nat, k ≤ m ∧ I = .int .i64 (k : Int) ∧ But g w wr ∧ RowK wr g m (part x y k)
set_option maxRecDepth 100000 in
set_option maxHeartbeats 1000000 in
theorem divide_any (fb g m : Nat) (x : Nat → K) (d : K) (w : World) (hm : m ≤ 4096) (hd : d ≠ 0) (hF : IsF w fb) (hg : fb ≠ g) (hx : RowK w g m x) :
    Calls Try.prog 47 #[.pointer (some ⟨fb, 0, none⟩), .slice (some ⟨g, 0, none⟩) m m, .int .u8 (d.n : Int)] w (Turned g m (fun j => kd (x j) d) w) := by
  have HD := Lib.hid (ne0 hd); have HF := Lib.hid hF; have HG := Lib.hid hg
  have HX : Hid (RowK w g m (part x (fun j => kd (x j) d) 0)) := hx.congr fun j _ => (if_neg (by omega)).symm
  clear hd hF hg hx
  have ld := d.h
  go_enter Try.func47, Try.ntmps47
  go_wp2_with fail
  go_loopw [10] (fun I wr => RelRow w g m x (fun j => kd (x j) d) I wr) (fun I _ => m - (intOf I).toNat)
  case atStart => exact ⟨0, by omega, rfl, But.refl, HX.out⟩
  case round =>
    clear HX
    obtain ⟨k, hk, rfl, hB, hR⟩ := hrel
    have HB := Lib.hid hB; have HR := Lib.hid hR; clear hB hR
    by_cases hlt : k < m
    · have k0 : (k : Int) < (m : Int) := by omega
      have cr : wr.cell? ⟨g, k, none⟩ = some (.int .u8 ((x k).n : Int)) := by
        have := World.rowIs.cell HR.out hlt
        rwa [show part x (fun j => kd (x j) d) k k = x k from if_neg (by omega)] at this
      go_wp2_with fail
      refine (divN fb (x k).n d.n (x k).h HD.out ld _ (IsF.but HF.out HB.out HG.out)).mono ?_
      rintro e w2 ⟨rfl, q, hq⟩
      have HR2 : Hid (RowK w2 g m (part x (fun j => kd (x j) d) k)) := by rw [hq]; exact HR.out
      have HB2 : Hid (But g w w2) := by rw [hq]; exact HB.out.drewN q
      have cr2 : w2.cell? ⟨g, k, none⟩ = some (.int .u8 ((x k).n : Int)) := by rw [hq]; exact cr
      have fr2 := World.rowIs.frozen HR2.out k
      clear hq
      have HS : Hid (RowK (w2.setCell ⟨g, k, none⟩ (.int .u8 ((gd (x k).n d.n : Nat) : Int))) g m (part x (fun j => kd (x j) d) (k + 1))) := RowK.set HR2.out
      go_wp2
      go_roundw
      case rel => exact ⟨k + 1, by omega, by go_num, HB2.out.setCell k _, HS.out⟩
      case measure => simp [intOf]; omega
    · obtain rfl : k = m := by omega
      go_wp2
      go_end0
      exact ⟨rfl, HB.out, HR.out.congr fun j hj => if_pos hj⟩
set_option maxRecDepth 100000 in
set_option maxHeartbeats 1000000 in
theorem addt_any (fb g h m : Nat) (x y : Nat → K) (t : K) (w : World) (hm : m ≤ 4096) (hF : IsF w fb) (hg : fb ≠ g) (hgh : h ≠ g) (hx : RowK w g m x) (hy : RowK w h m y) :
    Calls Try.prog 48 #[.pointer (some ⟨fb, 0, none⟩), .slice (some ⟨g, 0, none⟩) m m, .slice (some ⟨h, 0, none⟩) m m, .int .u8 (t.n : Int)] w (Turned g m (fun j => x j + y j * t) w) := by
  have HF := Lib.hid hF; have HG := Lib.hid hg; have HY := Lib.hid hy; have HH := Lib.hid hgh
  have HX : Hid (RowK w g m (part x (fun j => x j + y j * t) 0)) := hx.congr fun j _ => (if_neg (by omega)).symm
  clear hF hg hx hy hgh
  have lt := t.h
  go_enter Try.func48, Try.ntmps48
  go_wp2_with fail
  go_loopw [12] (fun I wr => RelRow w g m x (fun j => x j + y j * t) I wr) (fun I _ => m - (intOf I).toNat)
  case atStart => exact ⟨0, by omega, rfl, But.refl, HX.out⟩
  case round =>
    clear HX
    obtain ⟨k, hk, rfl, hB, hR⟩ := hrel
    have HB := Lib.hid hB; have HR := Lib.hid hR; clear hB hR
    by_cases hlt : k < m
    · have k0 : (k : Int) < (m : Int) := by omega
      have cr : wr.cell? ⟨g, k, none⟩ = some (.int .u8 ((x k).n : Int)) := by
        have := World.rowIs.cell HR.out hlt
        rwa [show part x (fun j => x j + y j * t) k k = x k from if_neg (by omega)] at this
      have cy : wr.cell? ⟨h, k, none⟩ = some (.int .u8 ((y k).n : Int)) := by
        rw [HB.out.cell (p := ⟨h, k, none⟩) HH.out]; exact World.rowIs.cell HY.out hlt
      have fr := World.rowIs.frozen HR.out k
      have HF2 := Lib.hid (IsF.but HF.out HB.out HG.out)
      have HS : Hid (∀ q, RowK ((wr.drewN q).setCell ⟨g, k, none⟩ (.int .u8 (((x k).n ^^^ gm (y k).n t.n : Nat) : Int))) g m (part x (fun j => x j + y j * t) (k + 1))) := fun q => RowK.set (y := fun j => x j + y j * t) (show RowK (wr.drewN q) g m _ from HR.out)
      have HB2 : Hid (∀ q v, But g w ((wr.drewN q).setCell ⟨g, k, none⟩ v)) := fun q v => (HB.out.drewN q).setCell k v
      have lx := (x k).h; have ly := (y k).h
      have lg := gm_lt (y k).n t.n
      generalize (x k).n = u at *
      generalize (y k).n = v at *
      go_wp2_with fail
      go_region_with (first
        | ((go_at_call 50; refine (mulN fb v t.n ly lt _ (by exact HF2.out.drewN 1)).mono ?_; rintro e w2 ⟨rfl, q, hq⟩; (have HQ : Hid (∃ a, w2 = wr.drewN a) := ⟨_, hq.trans (World.drewN_drewN (w := wr) (n := 1) (m := q))⟩); (have cr2 : w2.cell? ⟨g, k, none⟩ = some (.int .u8 (u : Int)) := by rw [hq]; exact cr); (have fr2 : w2.frozen? ⟨g, k, none⟩ = false := by rw [hq]; exact fr); clear hq))
        | ((go_at_call 49; refine (addN u (gm v t.n) lx lg _).mono ?_; rintro e w3 ⟨rfl, rfl⟩)))
      all_goals
        have HS3 : Hid (RowK (w3.setCell ⟨g, k, none⟩ (.int .u8 ((u ^^^ gm v t.n : Nat) : Int))) g m (part x (fun j => x j + y j * t) (k + 1))) := by
          obtain ⟨a, h⟩ := HQ.out; rw [h]; exact HS.out a
        have HB3 : Hid (But g w (w3.setCell ⟨g, k, none⟩ (.int .u8 ((u ^^^ gm v t.n : Nat) : Int)))) := by
          obtain ⟨a, h⟩ := HQ.out; rw [h]; exact HB2.out a _
        go_wp2
        go_roundw
        case rel => exact ⟨k + 1, by omega, by go_num, HB3.out, HS3.out⟩
        case measure => simp [intOf]; omega
    · obtain rfl : k = m := by omega
      go_wp2
      go_end0
      exact ⟨rfl, HB.out, HR.out.congr fun j hj => if_pos hj⟩
/-- Where the column has a row to clear with. -/
def LeadYes (n c : Nat) (x : Nat → Nat → K) (w : World) (e : Ending) (w' : World) : Prop := ∃ i : Nat, c ≤ i ∧ i < n ∧ x i c ≠ 0 ∧ e = .returned (.tuple #[.int .i64 (i : Int), .bool true]) ∧ w = w'
def RelLd (n c : Nat) (x : Nat → Nat → K) (I : Value) : Prop := ∃ k : Nat, c ≤ k ∧ k ≤ n ∧ (∀ i, c ≤ i → i < k → x i c = 0) ∧ I = .int .i64 (k : Int)
set_option maxRecDepth 100000 in
set_option maxHeartbeats 1000000 in
theorem lead_yes (P O n m cn c : Nat) (b o d : Nat → Nat) (x : Nat → Nat → K) (w : World) (hn : n ≤ 4096) (hc : c < m) (hcn : c ≤ n) (hM : Mat w P O n m b o d x) (h : ∃ i, c ≤ i ∧ i < n ∧ x i c ≠ 0) :
    Calls Try.prog 46 #[.slice (some ⟨P, O, none⟩) n cn, .int .i64 (c : Int)] w (LeadYes n c x w) := by
  have HM := Lib.hid hM; have H := Lib.hid h; clear hM h
  have c0 : (c : Int) < (m : Int) := by omega
  go_enter Try.func46, Try.ntmps46
  go_wp2_with fail
  go_loop [6] (fun I => RelLd n c x I) (fun I => n - (intOf I).toNat)
  case atStart => exact ⟨c, by omega, hcn, fun i h1 h2 => by omega, rfl⟩
  case round =>
    obtain ⟨k, hk0, hk, hz, rfl⟩ := hrel
    have HZ := Lib.hid hz; clear hz
    by_cases hlt : k < n
    · have ct := HM.out.top k hlt
      have cr := HM.out.row k hlt c hc
      have k0 : (k : Int) < (n : Int) := by omega
      by_cases he : x k c = 0
      · have HE := Lib.hid he
        rw [he] at cr
        have cr' : w.cell? ⟨b k, o k + c, none⟩ = some (.int .u8 0) := cr
        clear he cr
        go_wp2
        go_round
        case rel => exact ⟨k + 1, by omega, by omega, fun i h1 h2 => by
          by_cases e : i = k
          · subst e; exact HE.out
          · exact HZ.out i h1 (by omega), by go_num⟩
        case measure => simp [intOf]; omega
      · have HE := Lib.hid he
        have hx := ne0 he
        have t : (((x k c).n : Int) != 0) = true := by simp; omega
        have t' : ((x k c).n != 0) = true := by simpa using hx
        clear he hx
        generalize (x k c).n = u at *
        go_wp2
        go_ret2
        exact ⟨k, hk0, hlt, HE.out, rfl, rfl⟩
    · obtain rfl : k = n := by omega
      obtain ⟨i, h1, h2, h3⟩ := H.out
      exact absurd (HZ.out i h1 h2) h3
set_option maxRecDepth 100000 in
set_option maxHeartbeats 1000000 in
theorem lead_no (P O n m cn c : Nat) (b o d : Nat → Nat) (x : Nat → Nat → K) (w : World) (hn : n ≤ 4096) (hc : c < m) (hcn : c ≤ n) (hM : Mat w P O n m b o d x) (h : ∀ i, c ≤ i → i < n → x i c = 0) :
    Calls Try.prog 46 #[.slice (some ⟨P, O, none⟩) n cn, .int .i64 (c : Int)] w fun e w' => e = .returned (.tuple #[.int .i64 0, .bool false]) ∧ w = w' := by
  have HM := Lib.hid hM; have H := Lib.hid h; clear hM h
  have c0 : (c : Int) < (m : Int) := by omega
  go_enter Try.func46, Try.ntmps46
  go_wp2_with fail
  go_loop [6] (fun I => RelLd n c x I) (fun I => n - (intOf I).toNat)
  case atStart => exact ⟨c, by omega, hcn, fun i h1 h2 => by omega, rfl⟩
  case round =>
    obtain ⟨k, hk0, hk, hz, rfl⟩ := hrel
    have HZ := Lib.hid hz; clear hz
    by_cases hlt : k < n
    · have ct := HM.out.top k hlt
      have cr := HM.out.row k hlt c hc
      have k0 : (k : Int) < (n : Int) := by omega
      rw [H.out k hk0 hlt] at cr
      have cr' : w.cell? ⟨b k, o k + c, none⟩ = some (.int .u8 0) := cr
      clear cr
      go_wp2
      go_round
      case rel => exact ⟨k + 1, by omega, by omega, fun i h1 h2 => H.out i h1 (by omega), by go_num⟩
      case measure => simp [intOf]; omega
    · obtain rfl : k = n := by omega
      go_wp2
      go_ret2
      exact ⟨rfl, rfl⟩
end Go.Proofs.Ytkgfkchdbbeljaa.Mx

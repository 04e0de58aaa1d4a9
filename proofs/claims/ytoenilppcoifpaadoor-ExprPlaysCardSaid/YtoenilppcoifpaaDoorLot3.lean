/-
  The texts of this claim, lot 3: ExEnd, OvBuild, OvBld, VaWrite, VaWrite2, OvBuildK, ExWrite, ExRefW, VaRef, ExRefO, TpOne, VaRef2, VaRef3, ExRefX, ExNames, ExArr.
-/
import Derived.Test.YtoenilppcoifpaaDoorLot2
import Derived.Shelf.Strings.Builder1
import Derived.Shelf.Strings.BuilderK
import Derived.Lib.OthersKept
import Derived.RegionTactic
import Derived.ChangeAlike
import Derived.ChangeKeysEq
/-
  Where an expression ends; is a list right?
-/
namespace Go.Proofs.YtoenilppcoifpaaDoor.Ex
open Go.ChangeShapes Go.WideShapes Go.ChangeAt Go.RowKit Go.Proofs.YtoenilppcoifpaaDoor.Ov Go.Proofs.YtoenilppcoifpaaDoor.Va

/-- What end answers. -/
def enx (n : Nat) : Option (List No) → Value
  | some r => .tuple #[.int .i64 ((n - r.length : Nat) : Int), .bool true]
  | none => .tuple #[.int .i64 0, .bool false]
theorem rnv_nd (n : No) : rnv n.o n.v.k n.v.n (tx n.v.s) n.v.x n.v.y = rn n := by unfold rnv; rw [tx_list]
theorem rn_range {n : No} (h : rn n = true) : 0 ≤ n.o ∧ n.o ≤ 29 := by
  rcases rn_cases h with ⟨h, _⟩ | ⟨h, _⟩ | ⟨h, _⟩ <;> omega
theorem ex_drop_len {d k : Nat} {l r : List No} (h : ex d (l.drop k) = some r) (hk : k ≤ l.length) : r = l.drop (l.length - r.length) ∧ k < l.length - r.length ∧ r.length ≤ l.length := by
  obtain ⟨h1, h2⟩ := ex_len h
  rw [List.length_drop] at h1 h2
  rw [List.drop_drop] at h2
  refine ⟨?_, by omega, by omega⟩
  rw [show k + (l.length - k - r.length) = l.length - r.length by omega] at h2
  exact h2
theorem end_out {l : List No} {A : Option Addr} {c k wi : Nat} {w : World} (d : Nat) (hk : ¬ k < l.length) : Calls Tryd.prog 26 #[.slice A l.length c, .int .i64 (k : Int), .int .i64 (wi : Int)] w (Gives (enx l.length (ex d (l.drop k))) w) := by
  have HE : Hid (enx l.length (ex d (l.drop k)) = .tuple #[.int .i64 0, .bool false]) := by
    show _ = _
    rw [List.drop_of_length_le (by omega), ex_nil]; rfl
  go_enter Tryd.func26, Tryd.ntmps26
  go_wp2_with (fail)
  go_ret2
  exact ⟨by rw [HE.out]; rfl, Below.refl _ _⟩
theorem end_deep {l : List No} {A : Option Addr} {c k : Nat} {w : World} (hk : k < l.length) : Calls Tryd.prog 26 #[.slice A l.length c, .int .i64 (k : Int), .int .i64 25] w (Gives (enx l.length (ex 0 (l.drop k))) w) := by
  have HE : Hid (enx l.length (ex 0 (l.drop k)) = .tuple #[.int .i64 0, .bool false]) := rfl
  go_enter Tryd.func26, Tryd.ntmps26
  go_wp2_with (fail)
  go_ret2
  exact ⟨by rw [HE.out]; rfl, Below.refl _ _⟩
set_option maxRecDepth 100000 in
set_option maxHeartbeats 4000000 in
theorem end_any : ∀ (d : Nat) (l : List No) (A : Option Addr) (c k wi : Nat) (w : World), Nds w A l → KN w → wi + d = 25 → l.length ≤ 4294967296 → Calls Tryd.prog 26 #[.slice A l.length c, .int .i64 (k : Int), .int .i64 (wi : Int)] w (Gives (enx l.length (ex d (l.drop k))) w)
  | d, l, A, c, k, wi, w, hn, hkn, hwi, hl => by
    by_cases hk : k < l.length
    · cases d with
      | zero =>
        obtain rfl : wi = 25 := by omega
        exact end_deep hk
      | succ d =>
        have ih := end_any d
        obtain ⟨B, O, rfl⟩ := hn.shape (by omega)
        have HI : Hid (∀ (k wi : Nat) (w : World), Nds w (some ⟨B, O, none⟩) l → KN w → wi + d = 25 → Calls Tryd.prog 26 #[.slice (some ⟨B, O, none⟩) l.length c, .int .i64 (k : Int), .int .i64 (wi : Int)] w (Gives (enx l.length (ex d (l.drop k))) w)) :=
          fun k wi w h1 h2 h3 => ih l (some ⟨B, O, none⟩) c k wi w h1 h2 h3 hl
        clear ih
        have hw : wi ≤ 24 := by omega
        have HE1 : Hid (ex (d + 1) (l.drop k) = if rn (nd l k) = true then it (ex d) (pa (nd l k).o) (l.drop (k + 1)) else none) := by
          show _ = _
          rw [drop_nd hk, ex_cons]
        have HW : Hid (wi + 1 + d = 25) := by show _ = _; omega
        have HN := Lib.hid hn
        have HK := Lib.hid hkn
        clear hn hkn hwi
        have e0 := HN.out.cell hk 0 _ rfl
        have e1 := HN.out.cell hk 1 _ rfl
        have e2 := HN.out.cell hk 2 _ rfl
        have e3 := HN.out.cell hk 3 _ rfl
        have e4 := HN.out.cell hk 4 _ rfl
        have e5 := HN.out.cell hk 5 _ rfl
        rw [Nat.add_zero] at e0
        have HR : Hid (∀ w, KN w → Calls Tryd.prog 36 #[.agg #[.int .i64 (nd l k).o, .int .i64 (nd l k).v.k, .int .i64 (nd l k).v.n, .string (tx (nd l k).v.s), .int .i64 (nd l k).v.x, .int .i64 (nd l k).v.y]] w (Gives (.bool (rn (nd l k))) w)) := fun w h => by
          rw [← rnv_nd]; exact rightNode_any _ _ _ _ _ _ w h
        rcases Bool.eq_false_or_eq_true (rn (nd l k)) with hr | hr
        · obtain ⟨i, hi⟩ : ∃ i : Nat, (nd l k).o = (i : Int) := ⟨(nd l k).o.toNat, by have := rn_range hr; omega⟩
          have hi30 : i < 30 := by have := rn_range hr; omega
          have HE : Hid (ex (d + 1) (l.drop k) = it (ex d) ptl[i]! (l.drop (k + 1))) := by
            show _ = _
            rw [HE1.out, if_pos hr, hi, pa_at hi30]
          have hp3 : ptl[i]! ≤ 3 := by rw [← pa_at hi30]; exact pa_le _
          rw [hr, hi] at HR
          rw [hi] at e0
          clear HE1 hr hi
          generalize ex (d + 1) (l.drop k) = Z at *
          generalize hpp : ptl[i]! = p at *
          have HPP := Lib.hid hpp
          clear hpp
          have HW0 : Hid (B < w.heap.size) := HN.out.lt (by omega)
          have hd1 : decide (l.length ≤ k) = false := decide_eq_false (by omega)
          have hd2 : decide ((24 : Int) < (wi : Int)) = false := decide_eq_false (by omega)
          go_enter Tryd.func26, Tryd.ntmps26
          go_wp2_with (fail)
          refine (HR.out _ HK.out).mono ?_
          rintro e w1 ⟨rfl, hb⟩
          have HN1 := Lib.hid (HN.out.next hb)
          have HK1 := Lib.hid (HK.out.next hb)
          have HB := Lib.hid hb
          have f0 : w1.cell? ⟨B, O + k * 6, none⟩ = some (.int .i64 (i : Int)) := (hb.cell (p := ⟨B, O + k * 6, none⟩) HW0.out).trans e0
          clear hb e0 e1 e2 e3 e4 e5 HR HN HK HW0
          have cK := HK1.out.parts i hi30
          rw [HPP.out, Nat.mul_comm] at cK
          go_wp2_with (fail)
          clear f0 cK
          go_loopw [8, 37] (fun bh j wr => ∃ y q : Nat, q ≤ p ∧ y ≤ l.length ∧ j = .int .i64 (q : Int) ∧ bh = .int .i64 (y : Int) ∧ Z = it (ex d) (p - q) (l.drop y) ∧ Below w1.heap.size w1 wr) (fun _ j _ => p - (intOf j).toNat)
          case atStart => exact ⟨k + 1, 0, Nat.zero_le _, by omega, rfl, rfl, HE.out, Below.refl _ _⟩
          case round =>
            obtain ⟨y, q, hq, hy, rfl, rfl, hz, hb⟩ := hrel
            have HB1 := Lib.hid hb
            have HZ := Lib.hid hz
            clear hb hz
            by_cases hlt : q < p
            · have HC := Lib.hid (HI.out y (wi + 1) wr (HN1.out.next HB1.out) (HK1.out.next HB1.out) HW.out)
              have HZ1 : Hid (Z = (ex d (l.drop y)).bind (it (ex d) (p - (q + 1)))) := by
                show _ = _
                rw [HZ.out, show p - q = (p - (q + 1)) + 1 by omega, it_succ]
              clear HZ
              obtain ⟨x, hx⟩ : ∃ x, ex d (l.drop y) = x := ⟨_, rfl⟩
              rw [hx] at HC HZ1
              have HX := Lib.hid hx
              clear hx
              cases x with
              | none =>
                have HEE : Hid (enx l.length Z = .tuple #[.int .i64 0, .bool false]) := by show _ = _; rw [HZ1.out]; rfl
                clear HZ1
                unfold enx at HC
                go_wp2_with (fail)
                refine HC.out.mono ?_
                rintro e w2 ⟨rfl, hb⟩
                have HB2 := Lib.hid (Below.next HB.out (Below.next HB1.out hb))
                clear hb
                go_wp2_with (fail)
                go_ret2
                exact ⟨by rw [HEE.out]; rfl, HB2.out⟩
              | some r =>
                obtain ⟨g1, g2, g3⟩ := ex_drop_len HX.out hy
                obtain ⟨v, hv⟩ : ∃ v, l.length - r.length = v := ⟨_, rfl⟩
                rw [hv] at g1 g2
                have HZ2 : Hid (Z = it (ex d) (p - (q + 1)) (l.drop v)) := by show _ = _; rw [HZ1.out, ← g1]; rfl
                unfold enx at HC
                dsimp only at HC
                rw [hv] at HC
                have hv2 : v ≤ l.length := by omega
                clear HZ1 g1 hv HX
                go_wp2_with (fail)
                refine HC.out.mono ?_
                rintro e w2 ⟨rfl, hb⟩
                have HB2 := Lib.hid (Below.next HB1.out hb)
                clear hb
                go_wp2_with (fail)
                go_roundw
                case rel => exact ⟨v, q + 1, by omega, hv2, by go_num, rfl, HZ2.out, HB2.out⟩
                case measure => simp [intOf]; omega
            · have HEE : Hid (enx l.length Z = .tuple #[.int .i64 (y : Int), .bool true]) := by
                show _ = _
                rw [HZ.out, show p - q = 0 by omega, it_zero]
                show Value.tuple #[.int .i64 ((l.length - (l.drop y).length : Nat) : Int), .bool true] = _
                rw [List.length_drop, show l.length - (l.length - y) = y by omega]
              have HB2 := Lib.hid (Below.next HB.out HB1.out)
              clear HZ
              go_wp2_with (fail)
              go_ret2
              exact ⟨by rw [HEE.out]; rfl, HB2.out⟩
        · have HE : Hid (enx l.length (ex (d + 1) (l.drop k)) = .tuple #[.int .i64 0, .bool false]) := by
            show _ = _
            rw [HE1.out, if_neg (by rw [hr]; decide)]; rfl
          rw [hr] at HR
          clear HE1 hr
          go_enter Tryd.func26, Tryd.ntmps26
          go_wp2_with (fail)
          refine (HR.out _ HK.out).mono ?_
          rintro e w1 ⟨rfl, hb⟩
          have HB := Lib.hid hb
          clear hb
          go_wp2_with (fail)
          go_ret2
          exact ⟨by rw [HE.out]; rfl, HB.out⟩
    · exact end_out d hk
theorem Rt_val (l : List No) : Rt l = (decide (l.length ≤ 400) && decide (ex 25 l = some [])) := by
  unfold Rt
  rw [Bool.eq_iff_iff]; simp
set_option maxRecDepth 100000 in
theorem eright_any (l : List No) (A : Option Addr) (c : Nat) (w : World) (hn : Nds w A l) (hk : KN w) (hl : l.length ≤ 4294967296) : Calls Tryd.prog 11 #[.slice A l.length c] w (Gives (.bool (Rt l)) w) := by
  rw [Rt_val]
  by_cases h4 : l.length ≤ 400
  · rw [decide_eq_true h4, Bool.true_and]
    have HC := Lib.hid (end_any 25 l A c 0 0 w hn hk rfl hl)
    rw [List.drop_zero] at HC
    clear hn hk
    obtain ⟨x, hx⟩ : ∃ x, ex 25 l = x := ⟨_, rfl⟩
    rw [hx] at HC ⊢
    have HX := Lib.hid hx; clear hx
    cases x with
    | none =>
      rw [decide_eq_false (show ¬ (none : Option (List No)) = some [] by simp)]
      unfold enx at HC
      go_enter Tryd.func11, Tryd.ntmps11
      go_wp2_with (fail)
      refine HC.out.mono ?_
      rintro e w1 ⟨rfl, hb⟩
      have HB := Lib.hid hb; clear hb
      go_wp2_with (fail)
      go_ret
      exact ⟨rfl, HB.out⟩
    | some r =>
      have hr := (ex_len HX.out).1
      unfold enx at HC
      dsimp only at HC
      obtain ⟨v, hv⟩ : ∃ v, l.length - r.length = v := ⟨_, rfl⟩
      rw [hv] at HC
      have HE : decide (some r = some ([] : List No)) = ((v : Int) == (l.length : Int)) := by
        rw [Bool.eq_iff_iff]
        simp only [decide_eq_true_eq, beq_iff_eq, Option.some.injEq]
        constructor
        · rintro rfl; rw [List.length_nil] at hv; omega
        · intro h; exact List.eq_nil_of_length_eq_zero (by omega)
      rw [HE]
      clear HE hv HX hr
      go_enter Tryd.func11, Tryd.ntmps11
      go_wp2_with (fail)
      refine HC.out.mono ?_
      rintro e w1 ⟨rfl, hb⟩
      have HB := Lib.hid hb; clear hb
      go_wp2_with (fail)
      go_ret
      exact ⟨rfl, HB.out⟩
  · rw [decide_eq_false h4, Bool.false_and]
    have h5 : 400 < l.length := by omega
    clear hn hk
    go_enter Tryd.func11, Tryd.ntmps11
    go_wp2_with (fail)
    go_ret
    exact ⟨rfl, Below.refl _ _⟩
/-- What End answers. -/
def edx (l : List No) (a : Int) : Option (List No) := if a < 0 then none else if Rt l = true then ex 25 (l.drop a.toNat) else none
set_option maxRecDepth 100000 in
theorem eend_any (l : List No) (A : Option Addr) (c : Nat) (a : Int) (w : World) (hn : Nds w A l) (hk : KN w) (hl : l.length ≤ 4294967296) : Calls Tryd.prog 16 #[.slice A l.length c, .int .i64 a] w (Gives (enx l.length (edx l a)) w) := by
  by_cases h0 : a < 0
  · have HE : Hid (enx l.length (edx l a) = .tuple #[.int .i64 0, .bool false]) := by show _ = _; unfold edx; rw [if_pos h0]; rfl
    clear hn hk
    go_enter Tryd.func16, Tryd.ntmps16
    go_wp2_with (fail)
    go_ret2
    exact ⟨by rw [HE.out]; rfl, Below.refl _ _⟩
  · obtain ⟨k, rfl⟩ : ∃ k : Nat, a = (k : Int) := ⟨a.toNat, by omega⟩
    have HR := Lib.hid (eright_any l A c w hn hk hl)
    rcases Bool.eq_false_or_eq_true (Rt l) with hr | hr
    · have HE : Hid (enx l.length (edx l (k : Int)) = enx l.length (ex 25 (l.drop k))) := by show _ = _; unfold edx; rw [if_neg h0, if_pos hr]; rfl
      rw [hr] at HR; clear hr
      have HN := Lib.hid hn; have HK := Lib.hid hk
      have HC : Hid (∀ w1, Below w.heap.size w w1 → Calls Tryd.prog 26 #[.slice A l.length c, .int .i64 (k : Int), .int .i64 0] w1 (Gives (enx l.length (ex 25 (l.drop k))) w1)) := fun w1 hb => end_any 25 l A c k 0 w1 (HN.out.next hb) (HK.out.next hb) rfl hl
      clear hn hk
      generalize ex 25 (l.drop k) = x at *
      generalize edx l (k : Int) = y at *
      cases x with
      | none =>
        unfold enx at HC
        go_enter Tryd.func16, Tryd.ntmps16
        go_wp2_with (fail)
        refine HR.out.mono ?_
        rintro e w1 ⟨rfl, hb⟩
        have HB := Lib.hid hb; clear hb
        go_wp2_with (fail)
        refine (HC.out _ HB.out).mono ?_
        rintro e w2 ⟨rfl, hb⟩
        have HB2 := Lib.hid (Below.next HB.out hb); clear hb
        go_wp2_with (fail)
        go_ret2
        exact ⟨by rw [HE.out]; rfl, HB2.out⟩
      | some r =>
        unfold enx at HC
        dsimp only at HC
        generalize hv : ((l.length - r.length : Nat) : Int) = v at *
        have HV := Lib.hid hv; clear hv
        go_enter Tryd.func16, Tryd.ntmps16
        go_wp2_with (fail)
        refine HR.out.mono ?_
        rintro e w1 ⟨rfl, hb⟩
        have HB := Lib.hid hb; clear hb
        go_wp2_with (fail)
        refine (HC.out _ HB.out).mono ?_
        rintro e w2 ⟨rfl, hb⟩
        have HB2 := Lib.hid (Below.next HB.out hb); clear hb
        go_wp2_with (fail)
        go_ret2
        exact ⟨by rw [HE.out, show enx l.length (some r) = .tuple #[.int .i64 v, .bool true] by rw [← HV.out]; rfl]; rfl, HB2.out⟩
    · have HE : Hid (enx l.length (edx l (k : Int)) = .tuple #[.int .i64 0, .bool false]) := by show _ = _; unfold edx; rw [if_neg h0, if_neg (by rw [hr]; decide)]; rfl
      rw [hr] at HR; clear hr hn hk
      go_enter Tryd.func16, Tryd.ntmps16
      go_wp2_with (fail)
      refine HR.out.mono ?_
      rintro e w1 ⟨rfl, hb⟩
      have HB := Lib.hid hb; clear hb
      go_wp2_with (fail)
      go_ret2
      exact ⟨by rw [HE.out]; rfl, HB.out⟩
end Go.Proofs.YtoenilppcoifpaaDoor.Ex
/-
  Of any seat that holds strings.Builder: what WriteString, WriteByte and String answer, by the shelf (laid in plain words; written by gen_lay.py).
-/
namespace Go.Proofs.YtoenilppcoifpaaDoor.Ov
open Go.ChangeShapes Go.WideShapes Go.ChangeAt Go.RowKit Go.Shelf

/-- A builder of the call's own in block b, in which the bytes l lie. -/
def Bld (B b : Nat) (l : List UInt8) (w : World) : Prop := Lib.IsBuilder 58 5 B b (Lib.byteCells l) w
def bwsRen : Ren := ⟨fun | 166 => 33 | 240 => 44 | 276 => 57 | n => n, fun | 0 => 0 | 3 => 3 | 4 => 4 | 5 => 5 | 9 => 9 | 20 => 20 | 37 => 56 | 70 => 55 | 72 => 58 | 75 => 75 | 80 => 61 | 164 => 92 | n => n, fun n => n⟩
theorem bwsLays : Lays.n166 Tryd.prog bwsRen :=
  { mixed := by kernel_rfl
    f166 := by kernel_rfl
    f240 := by kernel_rfl
    f276 := by kernel_rfl
    t0 := by kernel_rfl
    a0 := fun _ => by kernel_rfl
    z0 := fun _ => by kernel_rfl
    v0 := fun _ => by kernel_rfl
    t3 := by kernel_rfl
    a3 := fun _ => by kernel_rfl
    z3 := fun _ => by kernel_rfl
    v3 := fun _ => by kernel_rfl
    t4 := by kernel_rfl
    a4 := fun _ => by kernel_rfl
    z4 := fun _ => by kernel_rfl
    v4 := fun _ => by kernel_rfl
    t9 := by kernel_rfl
    a9 := fun _ => by kernel_rfl
    z9 := fun _ => by kernel_rfl
    v9 := fun _ => by kernel_rfl
    t20 := by kernel_rfl
    a20 := fun _ => by kernel_rfl
    z20 := fun _ => by kernel_rfl
    v20 := fun _ => by kernel_rfl
    t37 := by kernel_rfl
    a37 := fun _ => by kernel_rfl
    z37 := fun _ => by kernel_rfl
    v37 := fun _ => by kernel_rfl
    t70 := by kernel_rfl
    a70 := fun _ => by kernel_rfl
    z70 := fun _ => by kernel_rfl
    v70 := fun _ => by kernel_rfl
    t72 := by kernel_rfl
    a72 := fun _ => by kernel_rfl
    z72 := fun _ => by kernel_rfl
    v72 := fun _ => by kernel_rfl
    t75 := by kernel_rfl
    a75 := fun _ => by kernel_rfl
    z75 := fun _ => by kernel_rfl
    v75 := fun _ => by kernel_rfl
    t164 := by kernel_rfl
    a164 := fun _ => by kernel_rfl
    z164 := fun _ => by kernel_rfl
    v164 := fun _ => by kernel_rfl }
theorem bwsExtra : Builder.Extra Tryd.prog bwsRen :=
  { sizeBuilder := by kernel_rfl
    liesBuilder := by kernel_rfl
    t5 := by kernel_rfl
    a5 := fun _ => by kernel_rfl
    z5 := fun _ => by kernel_rfl
    v5 := fun _ => by kernel_rfl
    infoByte := by kernel_rfl
    cellsByte := by kernel_rfl
    sizeByte := by kernel_rfl
    neB5 := by decide }
theorem write_any (B b : Nat) (l : List UInt8) (s : ByteArray) (w : World) (h : Bld B b l w) (hlen : l.length + s.size ≤ 140737488355328) (hB : B ≤ w.heap.size) :
    Calls Tryd.prog 33 #[.pointer (some ⟨b, 0, none⟩), .string s] w fun e w' => e = .returned (.tuple #[.int .i64 s.size, .nilIface]) ∧ Bld B b (l ++ s.data.toList) w' ∧ Below B w w' :=
  (Any.Builder_WriteString bwsLays bwsExtra B b (Lib.byteCells l) s w h (by rw [Lib.byteCells_length]; exact hlen) hB).mono fun _ w' ⟨he, h1, hb⟩ =>
    ⟨he, by
      rw [Lib.strCells_eq, ← Lib.byteCells_append] at h1
      exact Or.inr h1, hb⟩
def bwbRen : Ren := ⟨fun | 167 => 35 | 240 => 44 | 276 => 57 | n => n, fun | 0 => 0 | 4 => 4 | 5 => 5 | 9 => 9 | 20 => 20 | 37 => 56 | 70 => 55 | 72 => 58 | 75 => 75 | 80 => 61 | 164 => 92 | n => n, fun n => n⟩
theorem bwbLays : Lays.n167 Tryd.prog bwbRen :=
  { mixed := by kernel_rfl
    f167 := by kernel_rfl
    f240 := by kernel_rfl
    f276 := by kernel_rfl
    t0 := by kernel_rfl
    a0 := fun _ => by kernel_rfl
    z0 := fun _ => by kernel_rfl
    v0 := fun _ => by kernel_rfl
    t4 := by kernel_rfl
    a4 := fun _ => by kernel_rfl
    z4 := fun _ => by kernel_rfl
    v4 := fun _ => by kernel_rfl
    t5 := by kernel_rfl
    a5 := fun _ => by kernel_rfl
    z5 := fun _ => by kernel_rfl
    v5 := fun _ => by kernel_rfl
    t9 := by kernel_rfl
    a9 := fun _ => by kernel_rfl
    z9 := fun _ => by kernel_rfl
    v9 := fun _ => by kernel_rfl
    t20 := by kernel_rfl
    a20 := fun _ => by kernel_rfl
    z20 := fun _ => by kernel_rfl
    v20 := fun _ => by kernel_rfl
    t37 := by kernel_rfl
    a37 := fun _ => by kernel_rfl
    z37 := fun _ => by kernel_rfl
    v37 := fun _ => by kernel_rfl
    t70 := by kernel_rfl
    a70 := fun _ => by kernel_rfl
    z70 := fun _ => by kernel_rfl
    v70 := fun _ => by kernel_rfl
    t72 := by kernel_rfl
    a72 := fun _ => by kernel_rfl
    z72 := fun _ => by kernel_rfl
    v72 := fun _ => by kernel_rfl
    t75 := by kernel_rfl
    a75 := fun _ => by kernel_rfl
    z75 := fun _ => by kernel_rfl
    v75 := fun _ => by kernel_rfl
    t164 := by kernel_rfl
    a164 := fun _ => by kernel_rfl
    z164 := fun _ => by kernel_rfl
    v164 := fun _ => by kernel_rfl }
theorem bwbExtra : Builder.Extra Tryd.prog bwbRen :=
  { sizeBuilder := by kernel_rfl
    liesBuilder := by kernel_rfl
    t5 := by kernel_rfl
    a5 := fun _ => by kernel_rfl
    z5 := fun _ => by kernel_rfl
    v5 := fun _ => by kernel_rfl
    infoByte := by kernel_rfl
    cellsByte := by kernel_rfl
    sizeByte := by kernel_rfl
    neB5 := by decide }
theorem byte_any (B b : Nat) (l : List UInt8) (c : UInt8) (w : World) (h : Bld B b l w) (hlen : l.length + 1 ≤ 140737488355328) (hB : B ≤ w.heap.size) :
    Calls Tryd.prog 35 #[.pointer (some ⟨b, 0, none⟩), .int .u8 (c.toNat : Int)] w fun e w' => e = .returned .nilIface ∧ Bld B b (l ++ [c]) w' ∧ Below B w w' :=
  (Any.Builder_WriteByte bwbLays bwbExtra B b (Lib.byteCells l) (c.toNat : Int) w h (by rw [Lib.byteCells_length]; exact hlen) hB).mono fun _ w' ⟨he, h1, hb⟩ =>
    ⟨he, by
      have e : Lib.byteCells (l ++ [c]) = Lib.byteCells l ++ [.int .u8 (c.toNat : Int)] := by simp [Lib.byteCells]
      rw [← e] at h1
      exact Or.inr h1, hb⟩
def bstRen : Ren := ⟨fun | 169 => 25 | n => n, fun | 0 => 0 | 3 => 3 | 5 => 5 | 9 => 9 | 37 => 56 | 70 => 55 | 72 => 58 | 127 => 80 | n => n, fun n => n⟩
theorem bstLays : Lays.n169 Tryd.prog bstRen :=
  { mixed := by kernel_rfl
    f169 := by kernel_rfl
    t0 := by kernel_rfl
    a0 := fun _ => by kernel_rfl
    z0 := fun _ => by kernel_rfl
    v0 := fun _ => by kernel_rfl
    t3 := by kernel_rfl
    a3 := fun _ => by kernel_rfl
    z3 := fun _ => by kernel_rfl
    v3 := fun _ => by kernel_rfl
    t9 := by kernel_rfl
    a9 := fun _ => by kernel_rfl
    z9 := fun _ => by kernel_rfl
    v9 := fun _ => by kernel_rfl
    t37 := by kernel_rfl
    a37 := fun _ => by kernel_rfl
    z37 := fun _ => by kernel_rfl
    v37 := fun _ => by kernel_rfl
    t70 := by kernel_rfl
    a70 := fun _ => by kernel_rfl
    z70 := fun _ => by kernel_rfl
    v70 := fun _ => by kernel_rfl
    t72 := by kernel_rfl
    a72 := fun _ => by kernel_rfl
    z72 := fun _ => by kernel_rfl
    v72 := fun _ => by kernel_rfl
    t127 := by kernel_rfl
    a127 := fun _ => by kernel_rfl
    z127 := fun _ => by kernel_rfl
    v127 := fun _ => by kernel_rfl }
theorem bstExtra : Builder.Extra Tryd.prog bstRen :=
  { sizeBuilder := by kernel_rfl
    liesBuilder := by kernel_rfl
    t5 := by kernel_rfl
    a5 := fun _ => by kernel_rfl
    z5 := fun _ => by kernel_rfl
    v5 := fun _ => by kernel_rfl
    infoByte := by kernel_rfl
    cellsByte := by kernel_rfl
    sizeByte := by kernel_rfl
    neB5 := by decide }
theorem string_any (B b : Nat) (l : List UInt8) (w : World) (h : Bld B b l w) (hB : B ≤ w.heap.size) :
    Calls Tryd.prog 25 #[.pointer (some ⟨b, 0, none⟩)] w fun e w' => e = .returned (.string (tx l)) ∧ Below B w w' :=
  Any.Builder_String_any bstLays bstExtra B b l w h hB
end Go.Proofs.YtoenilppcoifpaaDoor.Ov
/-
  Of any seat that holds strings.Builder: a builder of the call's own, through calls that make memory.
-/
namespace Go.Proofs.YtoenilppcoifpaaDoor.Ov
open Go.ChangeShapes Go.WideShapes Go.ChangeAt Go.RowKit

theorem Bld.fresh (w : World) : Bld w.heap.size w.heap.size [] (w.alloc (.cells #[.pointer none, .slice none 0 0] 58)) := Lib.fresh_isBuilder _ _ w
theorem Bld.old {B b : Nat} {l : List UInt8} {w w' : World} (h : Bld B b l w) (k : Below w.heap.size w w') : Bld B b l w' := by
  have key : ∀ p, Lib.BuilderAt 58 5 B b p (Lib.byteCells l) w → Lib.BuilderAt 58 5 B b p (Lib.byteCells l) w' := fun p h => by
    have hlt := h.lt
    obtain ⟨hB, v, hb, hown, hne⟩ := h
    refine ⟨hB, v, by rw [k.block b hlt]; exact hb, hown.kept (row := none) ⟨k.os, k.tape, k.output, k.size, fun i hi _ => k.block i hi⟩ ?_, hne⟩
    cases hv : v.ownBlock with
    | none => exact Or.inl rfl
    | some g => exact Or.inr (by simp)
  exact h.elim (fun h => Or.inl (key _ h)) (fun h => Or.inr (key _ h))
theorem Bld.cast {B b : Nat} {l l' : List UInt8} {w : World} (h : Bld B b l w) (e : l = l') : Bld B b l' w := e ▸ h
end Go.Proofs.YtoenilppcoifpaaDoor.Ov
/-
  How a text is written between quotes.
-/
namespace Go.Proofs.YtoenilppcoifpaaDoor.Va
open Go.ChangeShapes Go.WideShapes Go.ChangeAt Go.RowKit Go.Proofs.YtoenilppcoifpaaDoor.Ov

/-- The digits of sixteen. -/
def six : ByteArray := ⟨#[48, 49, 50, 51, 52, 53, 54, 55, 56, 57, 97, 98, 99, 100, 101, 102]⟩
theorem six_at : ∀ i : Fin 16, six.data[i.val]? = some (hx i.val) := by decide
theorem run_six {z : Int} (n : Nat) (h : n < 16) (hz : z = (n : Int)) (w : World) : (Instr.index 9 (.string ⟨#[48, 49, 50, 51, 52, 53, 54, 55, 56, 57, 97, 98, 99, 100, 101, 102]⟩) (.int .u8 z)).run Tryd.prog w = .ok (.int .u8 ((hx n).toNat : Int)) w := by
  subst hz
  have hs : (n : Int) < ((six.size : Nat) : Int) := by show (n : Int) < 16; omega
  refine (run_index_string w 9 six .u8 (n : Int) Tryd.underlying9).trans ?_
  rw [dif_pos ⟨by omega, hs⟩]
  have e : six[((n : Int)).toNat]'(by omega) = hx n := by
    have := six_at ⟨n, h⟩
    rw [Array.getElem?_eq_some_iff] at this
    obtain ⟨hlt, he⟩ := this
    rw [← he]
    simp only [Int.toNat_natCast]
    rfl
  rw [e]
theorem esc_take (s : ByteArray) (k : Nat) (h : k < s.size) : esc (s.data.toList.take (k + 1)) = esc (s.data.toList.take k) ++ e1 s[k] := by
  rw [take_snoc s k h, esc_append]; unfold esc; simp
set_option maxRecDepth 100000 in
set_option maxHeartbeats 1000000 in
theorem writeText_any (s : ByteArray) (w : World) (hs : s.size ≤ 4096) :
    Calls Tryd.prog 46 #[.string s] w (Gives (.string (tx (34 :: (esc s.data.toList ++ [34])))) w) := by
  go_enter Tryd.func46, Tryd.ntmps46
  go_wp2_with (fail)
  have D0 := Lib.hid (Bld.fresh w)
  have HB0 := Lib.hid (box1 w (.cells #[.pointer none, .slice none 0 0] 58))
  generalize w.alloc (.cells #[.pointer none, .slice none 0 0] 58) = w0 at *
  refine (byte_any w.heap.size w.heap.size [] 34 _ D0.out (by simp) HB0.out.size).mono ?_
  rintro e w1 ⟨rfl, hd, hb⟩
  have D1 := Lib.hid hd
  have HB1 := Lib.hid (HB0.out.trans hb)
  clear hd hb D0 HB0
  go_wp2_with (fail)
  go_loopw [8] (fun i wr => ∃ k : Nat, k ≤ s.size ∧ i = .int .i64 (k : Int) ∧ Bld w.heap.size w.heap.size (34 :: esc (s.data.toList.take k)) wr ∧ Below w.heap.size w wr) (fun i _ => s.size - (intOf i).toNat)
  case atStart => exact ⟨0, Nat.zero_le _, rfl, D1.out, HB1.out⟩
  case round =>
    obtain ⟨k, hk, rfl, hd, hb⟩ := hrel
    have D1 := Lib.hid hd; have HB1 := Lib.hid hb; clear hd hb
    have hlen : (esc (s.data.toList.take k)).length ≤ 12288 := by
      have h1 := esc_le (s.data.toList.take k)
      have h2 : (s.data.toList.take k).length ≤ k := List.length_take_le _ _
      omega
    by_cases hlt : k < s.size
    · have HS := Lib.hid (esc_take s k hlt)
      obtain ⟨c, hc⟩ : ∃ c : UInt8, s[k] = c := ⟨_, rfl⟩
      rw [hc] at HS
      have HP := Lib.hid (plain_any c)
      have hcl := c.toNat_lt
      by_cases hp : pl c = true
      · have HE : Hid (e1 c = [c]) := if_pos hp
        rw [hp] at HP; clear hp
        generalize esc (s.data.toList.take k) = l at *
        go_wp2_with (fail)
        refine (HP.out _).mono ?_
        rintro e w' ⟨rfl, rfl⟩
        go_wp2_with (fail)
        refine (byte_any w.heap.size w.heap.size _ c _ D1.out (by simp; omega) HB1.out.size).mono ?_
        rintro e w2 ⟨rfl, hd, hb⟩
        have D2 := Lib.hid hd
        have HB2 := Lib.hid (HB1.out.trans hb)
        clear hd hb D1 HB1
        go_wp2_with (fail)
        go_roundw
        case rel => exact ⟨k + 1, by omega, by go_num, D2.out.cast (by rw [HS.out, HE.out]; rfl), HB2.out⟩
        case measure => simp [intOf]; omega
      · have hp' : pl c = false := by simpa using hp
        have HE : Hid (e1 c = [92, hx (c.toNat / 16), hx (c.toNat % 16)]) := if_neg hp
        rw [hp'] at HP; clear hp hp'
        have hx1 := run_six (z := (c.toNat : Int) / 16) (c.toNat / 16) (by omega) (by omega)
        have hx2 := run_six (z := (c.toNat : Int) % 16) (c.toNat % 16) (by omega) (by omega)
        generalize esc (s.data.toList.take k) = l at *
        go_wp2_with (fail)
        refine (HP.out _).mono ?_
        rintro e w' ⟨rfl, rfl⟩
        go_wp2_with (fail)
        refine (byte_any w.heap.size w.heap.size _ 92 _ D1.out (by simp; omega) HB1.out.size).mono ?_
        rintro e w2 ⟨rfl, hd, hb⟩
        have D2 := Lib.hid hd
        have HB2 := Lib.hid (HB1.out.trans hb)
        clear hd hb D1 HB1
        go_wp2_with (fail)
        refine (byte_any w.heap.size w.heap.size _ (hx (c.toNat / 16)) _ D2.out (by simp; omega) HB2.out.size).mono ?_
        rintro e w3 ⟨rfl, hd, hb⟩
        have D3 := Lib.hid hd
        have HB3 := Lib.hid (HB2.out.trans hb)
        clear hd hb D2 HB2
        go_wp2_with (fail)
        refine (byte_any w.heap.size w.heap.size _ (hx (c.toNat % 16)) _ D3.out (by simp; omega) HB3.out.size).mono ?_
        rintro e w4 ⟨rfl, hd, hb⟩
        have D4 := Lib.hid hd
        have HB4 := Lib.hid (HB3.out.trans hb)
        clear hd hb D3 HB3
        go_wp2_with (fail)
        go_roundw
        case rel => exact ⟨k + 1, by omega, by go_num, D4.out.cast (by rw [HS.out, HE.out]; simp), HB4.out⟩
        case measure => simp [intOf]; omega
    · have HT : Hid (s.data.toList.take k = s.data.toList) := List.take_of_length_le (by simp; omega)
      rw [HT.out] at D1 hlen
      generalize esc s.data.toList = l at *
      go_wp2_with (fail)
      refine (byte_any w.heap.size w.heap.size _ 34 _ D1.out (by simp; omega) HB1.out.size).mono ?_
      rintro e w2 ⟨rfl, hd, hb⟩
      have D2 := Lib.hid hd
      have HB2 := Lib.hid (HB1.out.trans hb)
      clear hd hb D1 HB1
      go_wp2_with (fail)
      refine (string_any _ _ _ _ D2.out HB2.out.size).mono ?_
      rintro e w3 ⟨rfl, hb⟩
      have HB3 := Lib.hid (HB2.out.trans hb)
      clear hb
      go_wp2_with (fail)
      go_ret
      exact ⟨rfl, HB3.out⟩
end Go.Proofs.YtoenilppcoifpaaDoor.Va
/-
  How a value is written.
-/
namespace Go.Proofs.YtoenilppcoifpaaDoor.Va
open Go.ChangeShapes Go.WideShapes Go.ChangeAt Go.RowKit Go.Proofs.YtoenilppcoifpaaDoor.Ov Go.Proofs.YtoenilppcoifpaaDoor.Ga Go.Proofs.YtoenilppcoifpaaDoor.Tp

set_option maxHeartbeats 1000000 in
theorem write_no {k n x y : Int} {s : ByteArray} (h : rt ⟨k, n, s.data.toList, x, y⟩ = false) (w : World) : Calls Tryd.prog 34 #[.agg #[.int .i64 k, .int .i64 n, .string s, .int .i64 x, .int .i64 y]] w (Gives (.string ⟨#[]⟩) w) := by
  have HR := Lib.hid (right_val k n x y s); rw [h] at HR; clear h
  go_enter Tryd.func34, Tryd.ntmps34
  go_wp2_with (fail)
  have kb := box1 w (.cells #[.int .i64 k, .int .i64 n, .string s, .int .i64 x, .int .i64 y] 48)
  have D := Blk.made w 48 (vcs k n s x y) rfl
  change Blk (w.alloc (.cells #[.int .i64 k, .int .i64 n, .string s, .int .i64 x, .int .i64 y] 48)) w.heap.size _ at D
  generalize w.alloc (.cells #[.int .i64 k, .int .i64 n, .string s, .int .i64 x, .int .i64 y] 48) = v at *
  refine (HR.out _).mono ?_
  rintro e w1 ⟨rfl, hb⟩
  have HB := Lib.hid (Below.next kb hb)
  have D1 := Lib.hid (D.next hb)
  clear hb kb D
  have c0 := D1.out.v0; have c1 := D1.out.v1; have c2 := D1.out.v2; have c3 := D1.out.v3; have c4 := D1.out.v4
  go_wp2_with (fail)
  go_ret
  exact ⟨rfl, HB.out⟩
set_option maxHeartbeats 1000000 in
theorem write_text {n x y : Int} {s : ByteArray} (h : rt ⟨1, n, s.data.toList, x, y⟩ = true) (w : World) : Calls Tryd.prog 34 #[.agg #[.int .i64 1, .int .i64 n, .string s, .int .i64 x, .int .i64 y]] w (Gives (.string (tx (wr ⟨1, n, s.data.toList, x, y⟩))) w) := by
  have hs : s.size ≤ 4096 := by
    have := rt_yes h
    simp at this; exact this.2.1
  have HR := Lib.hid (right_val 1 n x y s); rw [h] at HR; clear h
  have HT := Lib.hid (fun w => writeText_any s w hs)
  rw [wr_text]
  generalize tx (34 :: (esc s.data.toList ++ [34])) = t at *
  go_enter Tryd.func34, Tryd.ntmps34
  go_wp2_with (fail)
  have kb := box1 w (.cells #[.int .i64 1, .int .i64 n, .string s, .int .i64 x, .int .i64 y] 48)
  have D := Blk.made w 48 (vcs 1 n s x y) rfl
  change Blk (w.alloc (.cells #[.int .i64 1, .int .i64 n, .string s, .int .i64 x, .int .i64 y] 48)) w.heap.size _ at D
  generalize w.alloc (.cells #[.int .i64 1, .int .i64 n, .string s, .int .i64 x, .int .i64 y] 48) = v at *
  refine (HR.out _).mono ?_
  rintro e w1 ⟨rfl, hb⟩
  have HB := Lib.hid (Below.next kb hb)
  have D1 := Lib.hid (D.next hb)
  clear hb kb D
  have c0 := D1.out.v0; have c1 := D1.out.v1; have c2 := D1.out.v2; have c3 := D1.out.v3; have c4 := D1.out.v4
  go_wp2_with (fail)
  clear c0 c1 c2 c3 c4
  refine (HT.out _).mono ?_
  rintro e w2 ⟨rfl, hb⟩
  have HB2 := Lib.hid (Below.next HB.out hb)
  clear hb
  go_wp2_with (fail)
  go_ret
  exact ⟨rfl, HB2.out⟩
theorem itoa_le (n : Int) (h : -9007199254740992 ≤ n ∧ n ≤ 9007199254740992) : (tx (Lib.itoa n)).size ≤ 21 := by
  rw [tx_size]; exact Lib.itoa_length_le n (by omega) (by omega)
set_option maxHeartbeats 1000000 in
theorem write_int {n x y : Int} {s : ByteArray} (h : rt ⟨0, n, s.data.toList, x, y⟩ = true) (w : World) (ht : Tab w) : Calls Tryd.prog 34 #[.agg #[.int .i64 0, .int .i64 n, .string s, .int .i64 x, .int .i64 y]] w (Gives (.string (tx (wr ⟨0, n, s.data.toList, x, y⟩))) w) := by
  have hr : -9007199254740992 ≤ n ∧ n ≤ 9007199254740992 := by
    rw [rt_int, Bool.and_eq_true, Bool.and_eq_true, decide_eq_true_eq, decide_eq_true_eq] at h; exact h.2
  have HR := Lib.hid (right_val 0 n x y s); rw [h] at HR; clear h
  have HT := Lib.hid ht; clear ht
  have HI := Lib.hid (itoa_any n (by omega) (by omega))
  clear hr
  rw [wr_int]
  generalize tx (Lib.itoa n) = t at *
  go_enter Tryd.func34, Tryd.ntmps34
  go_wp2_with (fail)
  have kb := box1 w (.cells #[.int .i64 0, .int .i64 n, .string s, .int .i64 x, .int .i64 y] 48)
  have D := Blk.made w 48 (vcs 0 n s x y) rfl
  change Blk (w.alloc (.cells #[.int .i64 0, .int .i64 n, .string s, .int .i64 x, .int .i64 y] 48)) w.heap.size _ at D
  generalize w.alloc (.cells #[.int .i64 0, .int .i64 n, .string s, .int .i64 x, .int .i64 y] 48) = v at *
  refine (HR.out _).mono ?_
  rintro e w1 ⟨rfl, hb⟩
  have HB := Lib.hid (Below.next kb hb)
  have D1 := Lib.hid (D.next hb)
  clear hb kb D
  have c0 := D1.out.v0; have c1 := D1.out.v1; have c2 := D1.out.v2; have c3 := D1.out.v3; have c4 := D1.out.v4
  go_wp2_with (fail)
  clear c0 c1 c2 c3 c4
  refine (HI.out _ (HT.out.next HB.out)).mono ?_
  rintro e w2 ⟨rfl, hb⟩
  have HB2 := Lib.hid (Below.next HB.out hb)
  clear hb
  go_wp2_with (fail)
  go_ret
  exact ⟨rfl, HB2.out⟩
set_option maxHeartbeats 1000000 in
theorem write_point {n x y : Int} {s : ByteArray} (h : rt ⟨2, n, s.data.toList, x, y⟩ = true) (w : World) (ht : Tab w) : Calls Tryd.prog 34 #[.agg #[.int .i64 2, .int .i64 n, .string s, .int .i64 x, .int .i64 y]] w (Gives (.string (tx (wr ⟨2, n, s.data.toList, x, y⟩))) w) := by
  have hr := rb_xy (by rw [rt_point, Bool.and_eq_true] at h; exact h.2 : rb ⟨x, y⟩ = true)
  have HR := Lib.hid (right_val 2 n x y s); rw [h] at HR; clear h
  have HT := Lib.hid ht; clear ht
  have HA := Lib.hid (itoa_any x (by omega) (by omega))
  have HC := Lib.hid (itoa_any y (by omega) (by omega))
  have z2 := itoa_le x (by omega)
  have z3 := itoa_le y (by omega)
  clear hr
  have HE : Hid (tx (Lib.itoa x) ++ ⟨#[58]⟩ ++ tx (Lib.itoa y) = tx (wr ⟨2, n, s.data.toList, x, y⟩)) := by
    show _ = _
    rw [wr_point, show (⟨#[58]⟩ : ByteArray) = tx [58] from rfl, tx_append, tx_append]
  generalize tx (Lib.itoa x) = a at *
  generalize tx (Lib.itoa y) = b at *
  have g1 : ¬ a.size + 1 > 9223372036854775807 := by omega
  have g2 : ¬ a.size + 1 + b.size > 9223372036854775807 := by omega
  clear z2 z3
  go_enter Tryd.func34, Tryd.ntmps34
  go_wp2_with (fail)
  have kb := box1 w (.cells #[.int .i64 2, .int .i64 n, .string s, .int .i64 x, .int .i64 y] 48)
  have D := Blk.made w 48 (vcs 2 n s x y) rfl
  change Blk (w.alloc (.cells #[.int .i64 2, .int .i64 n, .string s, .int .i64 x, .int .i64 y] 48)) w.heap.size _ at D
  generalize w.alloc (.cells #[.int .i64 2, .int .i64 n, .string s, .int .i64 x, .int .i64 y] 48) = v at *
  refine (HR.out _).mono ?_
  rintro e w1 ⟨rfl, hb⟩
  have HB := Lib.hid (Below.next kb hb)
  have D1 := Lib.hid (D.next hb)
  clear hb kb D
  have c0 := D1.out.v0; have c1 := D1.out.v1; have c2 := D1.out.v2; have c3 := D1.out.v3; have c4 := D1.out.v4
  go_wp2_with (fail)
  clear c0 c1 c2 c3 c4
  have KA := Lib.hid (fun q : Over w1 => HA.out q.val ((HT.out.next HB.out).next q.property))
  have KC := Lib.hid (fun q : Over w1 => HC.out q.val ((HT.out.next HB.out).next q.property))
  have D2 := D1.out
  have k3 := fun r : Over w1 => (D2.over r).v3
  have k4 := fun r : Over w1 => (D2.over r).v4
  clear D2
  refine wp_over (by kernel_rfl) (by kernel_rfl) ?_
  repeat (go_big_quiet_step (first | fail | with_reducible exact over_gives _ (KA.out _) | with_reducible exact over_gives _ (KC.out _)))
  refine wpQuiet_nil ?_
  rintro w3 ⟨⟨w3, hb⟩, rfl⟩
  have HB3 := Lib.hid (Below.next HB.out hb)
  clear hb k3 k4
  go_wp2_with (fail)
  go_ret
  exact ⟨ret_str HE.out, HB3.out⟩
theorem write_yes {k n x y : Int} {s : ByteArray} (h : rt ⟨k, n, s.data.toList, x, y⟩ = true) (w : World) (ht : Tab w) : Calls Tryd.prog 34 #[.agg #[.int .i64 k, .int .i64 n, .string s, .int .i64 x, .int .i64 y]] w (Gives (.string (tx (wr ⟨k, n, s.data.toList, x, y⟩))) w) := by
  by_cases h0 : k = 0
  · subst h0; exact write_int h w ht
  by_cases h1 : k = 1
  · subst h1; exact write_text h w
  by_cases h2 : k = 2
  · subst h2; exact write_point h w ht
  rw [rt_kind n x y _ h0 h1 h2] at h; cases h
end Go.Proofs.YtoenilppcoifpaaDoor.Va
/-
  Of any seat that holds strings.Builder: WriteString, WriteByte, String, Len, by the shelf's forms that keep what lies above the builder (laid in plain words; written by gen_lay.py).
-/
namespace Go.Proofs.YtoenilppcoifpaaDoor.Ov
open Go.ChangeShapes Go.WideShapes Go.ChangeAt Go.RowKit Go.Shelf

/-- A builder of the call's own in block b, in which the bytes l lie. -/
def BldF (B b : Nat) (l : List UInt8) (w : World) : Prop := Lib.IsBuilderF 58 5 B b (Lib.byteCells l) w
/-- Every block that isn't the builder's and no row of bytes stands as it stood. -/
def Kept (b : Nat) (w w' : World) : Prop := Lib.OthersKept 5 (some b) w w'
theorem writeK_any (B b : Nat) (l : List UInt8) (s : ByteArray) (w : World) (h : BldF B b l w) (hlen : l.length + s.size ≤ 140737488355328) (hB : B ≤ w.heap.size) :
    Calls Tryd.prog 33 #[.pointer (some ⟨b, 0, none⟩), .string s] w fun e w' => e = .returned (.tuple #[.int .i64 s.size, .nilIface]) ∧ BldF B b (l ++ s.data.toList) w' ∧ Below B w w' ∧ Kept b w w' :=
  (Any.Builder_WriteString_k bwsLays bwsExtra B b (Lib.byteCells l) s w h (by rw [Lib.byteCells_length]; exact hlen) hB).mono fun _ w' ⟨he, h1, hb, hk⟩ =>
    ⟨he, by
      rw [Lib.strCells_eq, ← Lib.byteCells_append] at h1
      exact Or.inr h1, hb, hk⟩
theorem byteK_any (B b : Nat) (l : List UInt8) (c : UInt8) (w : World) (h : BldF B b l w) (hlen : l.length + 1 ≤ 140737488355328) (hB : B ≤ w.heap.size) :
    Calls Tryd.prog 35 #[.pointer (some ⟨b, 0, none⟩), .int .u8 (c.toNat : Int)] w fun e w' => e = .returned .nilIface ∧ BldF B b (l ++ [c]) w' ∧ Below B w w' ∧ Kept b w w' :=
  (Any.Builder_WriteByte_k bwbLays bwbExtra B b (Lib.byteCells l) (c.toNat : Int) w h (by rw [Lib.byteCells_length]; exact hlen) hB).mono fun _ w' ⟨he, h1, hb, hk⟩ =>
    ⟨he, by
      have e : Lib.byteCells (l ++ [c]) = Lib.byteCells l ++ [.int .u8 (c.toNat : Int)] := by simp [Lib.byteCells]
      rw [← e] at h1
      exact Or.inr h1, hb, hk⟩
theorem stringK_any (B b : Nat) (l : List UInt8) (w : World) (h : BldF B b l w) (hB : B ≤ w.heap.size) :
    Calls Tryd.prog 25 #[.pointer (some ⟨b, 0, none⟩)] w fun e w' => e = .returned (.string (tx l)) ∧ BldF B b l w' ∧ Below B w w' ∧ Kept b w w' :=
  (Any.Builder_String_any_k bstLays bstExtra B b l w h hB).mono fun _ _ ⟨he, h1, hb, hk⟩ => ⟨he, h1, hb, hk⟩
def blnRen : Ren := ⟨fun | 170 => 24 | n => n, fun | 0 => 0 | 3 => 3 | 5 => 5 | 37 => 56 | 70 => 55 | 72 => 58 | n => n, fun n => n⟩
theorem blnLays : Lays.n170 Tryd.prog blnRen :=
  { mixed := by kernel_rfl
    f170 := by kernel_rfl
    t0 := by kernel_rfl
    a0 := fun _ => by kernel_rfl
    z0 := fun _ => by kernel_rfl
    v0 := fun _ => by kernel_rfl
    t3 := by kernel_rfl
    a3 := fun _ => by kernel_rfl
    z3 := fun _ => by kernel_rfl
    v3 := fun _ => by kernel_rfl
    t37 := by kernel_rfl
    a37 := fun _ => by kernel_rfl
    z37 := fun _ => by kernel_rfl
    v37 := fun _ => by kernel_rfl
    t70 := by kernel_rfl
    a70 := fun _ => by kernel_rfl
    z70 := fun _ => by kernel_rfl
    v70 := fun _ => by kernel_rfl
    t72 := by kernel_rfl
    a72 := fun _ => by kernel_rfl
    z72 := fun _ => by kernel_rfl
    v72 := fun _ => by kernel_rfl }
theorem lenK_any (B b : Nat) (l : List UInt8) (w : World) (h : BldF B b l w) :
    Calls Tryd.prog 24 #[.pointer (some ⟨b, 0, none⟩)] w fun e w' => e = .returned (.int .i64 l.length) ∧ w = w' :=
  (Any.Builder_Len_f blnLays B b (Lib.byteCells l) w h).mono fun _ w' ⟨he, hw⟩ => ⟨by rw [he, Lib.byteCells_length], hw.symm⟩
theorem BldF.fresh (w : World) : BldF w.heap.size w.heap.size [] (w.alloc (.cells #[.pointer none, .slice none 0 0] 58)) := Lib.IsBuilderF.of (Lib.fresh_isBuilder _ _ w)
theorem BldF.old {B b : Nat} {l : List UInt8} {w w' : World} (h : BldF B b l w) (k : Below w.heap.size w w') : BldF B b l w' := by
  have key : ∀ p, Lib.BuilderAtF 58 5 B b p (Lib.byteCells l) w → Lib.BuilderAtF 58 5 B b p (Lib.byteCells l) w' := fun p h => by
    have hlt := h.lt
    obtain ⟨hB, v, hb, hown, hne⟩ := h
    refine ⟨hB, v, by rw [k.block b hlt]; exact hb, hown.kept (row := none) ⟨k.os, k.tape, k.output, k.size, fun i hi _ => k.block i hi⟩ ?_, hne⟩
    cases hv : v.ownBlock with
    | none => exact Or.inl rfl
    | some g => exact Or.inr (by simp)
  exact h.elim (fun h => Or.inl (key _ h)) (fun h => Or.inr (key _ h))
theorem BldF.cast {B b : Nat} {l l' : List UInt8} {w : World} (h : BldF B b l w) (e : l = l') : BldF B b l' w := e ▸ h
theorem BldF.lt {B b : Nat} {l : List UInt8} {w : World} (h : BldF B b l w) : b < w.heap.size := h.elim (fun h => h.lt) (fun h => h.lt)
theorem BldF.lo {B b : Nat} {l : List UInt8} {w : World} (h : BldF B b l w) : B ≤ b := h.elim (fun h => h.1) (fun h => h.1)
theorem Kept.refl (b : Nat) (w : World) : Kept b w w := Lib.OthersKept.refl _ _ _
theorem Kept.trans {b : Nat} {w w1 w2 : World} (h : Kept b w w1) (k : Kept b w1 w2) : Kept b w w2 := Lib.OthersKept.trans h k
theorem Kept.of_below {b : Nat} {w w' : World} (k : Below w.heap.size w w') : Kept b w w' := fun i o hi _ _ => by
  rw [k.block i (Array.getElem?_eq_some_iff.1 hi).1]; exact hi
end Go.Proofs.YtoenilppcoifpaaDoor.Ov
/-
  How an expression is written: writeFirst, Write.
-/
namespace Go.Proofs.YtoenilppcoifpaaDoor.Ex
open Go.ChangeShapes Go.WideShapes Go.ChangeAt Go.RowKit Go.Proofs.YtoenilppcoifpaaDoor.Ov Go.Proofs.YtoenilppcoifpaaDoor.Va

/-- The tables lie below B. -/
structure Lo (w : World) (B : Nat) : Prop where
  kn : KN w
  tab : Tab w
  k : 0 < B
  n : 1 < B
  t : 2 < B
  le : B ≤ w.heap.size
theorem Lo.below {w w' : World} {B : Nat} (h : Lo w B) (k : Below B w w') : Lo w' B :=
  ⟨⟨fun i hi => (k.cell (p := ⟨0, 2 * i, none⟩) h.k).trans (h.kn.word i hi), fun i hi => (k.cell (p := ⟨0, 2 * i + 1, none⟩) h.k).trans (h.kn.parts i hi),
    fun i hi => (k.cell (p := ⟨1, i, none⟩) h.n).trans (h.kn.name i hi)⟩, by
    have e : w'.var? Tryd.prog "internal/strconv.uint64pow10" = w.var? Tryd.prog "internal/strconv.uint64pow10" := by
      unfold World.var?
      rw [tab_global]
      simp only [Option.bind_some]
      rw [k.block _ h.t]
    exact e.trans h.tab, h.k, h.n, h.t, Nat.le_trans h.le k.size⟩
theorem Lo.start {w : World} (hk : KN w) (ht : Tab w) : Lo w w.heap.size := ⟨hk, ht, hk.lt.1, hk.lt.2, ht.lt, Nat.le_refl _⟩
/-- What writeFirst leaves. -/
def WF (r : List No) (t : List UInt8) (B b : Nat) (w : World) (e : Ending) (w' : World) : Prop :=
  ∃ A c, e = .returned (.slice A r.length c) ∧ Nds w' A r ∧ (∀ a, A = some a → a.block < B) ∧ r.length ≤ c ∧ BldF B b t w' ∧ Below B w w' ∧ Kept b w w'
/-- The node's box, through calls that keep it. -/
def Bx (w : World) (c : Nat) (n : No) : Prop := w.heap[c]? = some (.cells #[.int .i64 n.o, .int .i64 n.v.k, .int .i64 n.v.n, .string (tx n.v.s), .int .i64 n.v.x, .int .i64 n.v.y] 53 (0, 0))
section
variable {w w' : World} {b c : Nat} {n : No}
theorem Bx.kept (h : Bx w c n) (k : Kept b w w') (hne : c ≠ b) : Bx w' c n := k c _ h (fun e => hne (Option.some.inj e)) (fun cs fz e => by injection e with _ e2; exact absurd e2 (by decide))
theorem Bx.old (h : Bx w c n) (k : Below w.heap.size w w') : Bx w' c n := by
  have hlt := (Array.getElem?_eq_some_iff.1 h).1
  exact (k.block c hlt).trans h
theorem Bx.cell (h : Bx w c n) (j : Nat) (v : Value) (hv : (ncl n)[j]? = some v) : w.cell? ⟨c, j, none⟩ = some v := by
  rw [Lib.cell_of_heap h]
  exact (List.getElem?_toArray).trans hv
end
/-- A node's box, of which its kind alone is read. -/
def Bx0 (w : World) (c : Nat) (o : Int) : Prop := ∃ cs, w.heap[c]? = some (.cells cs 53 (0, 0)) ∧ cs[0]? = some (.int .i64 o)
section
variable {w w' : World} {b c : Nat} {o : Int}
theorem Bx0.kept (h : Bx0 w c o) (k : Kept b w w') (hne : c ≠ b) : Bx0 w' c o := by
  obtain ⟨cs, h1, h2⟩ := h
  exact ⟨cs, k c _ h1 (fun e => hne (Option.some.inj e)) (fun cs fz e => by injection e with _ e2; exact absurd e2 (by decide)), h2⟩
theorem Bx0.cell (h : Bx0 w c o) : w.cell? ⟨c, 0, none⟩ = some (.int .i64 o) := by
  obtain ⟨cs, h1, h2⟩ := h
  rw [Lib.cell_of_heap h1, h2]
end
/-- The loop over a node's parts: so far dn is written, R is left. -/
structure RW (w : World) (d p : Nat) (r : List No) (full : List UInt8) (B b : Nat) (j : Nat) (R : List No) (AR : Option Addr) (cR : Nat) (dn : List UInt8) (wr : World) : Prop where
  jp : j ≤ p
  it : it (ex d) (p - j) R = some r
  nds : Nds wr AR R
  lo : ∀ a, AR = some a → a.block < B
  cap : R.length ≤ cR
  txt : dn ++ ts (wt d) (ex d) (p - j) R = full
  len : dn.length + 12300 * R.length + (d + 1) ≤ 1000000000
  bld : BldF B b dn wr
  tab : Lo wr B
  below : Below B w wr
  kept : Kept b w wr
set_option maxRecDepth 100000 in
set_option maxHeartbeats 4000000 in
theorem first_any : ∀ (d : Nat) (l r : List No) (A : Option Addr) (c B b : Nat) (t : List UInt8) (w : World), ex d l = some r → Nds w A l → (∀ a, A = some a → a.block < B) → l.length ≤ c → Lo w B → BldF B b t w → t.length + 12300 * l.length + d ≤ 1000000000 →
    Calls Tryd.prog 23 #[.pointer (some ⟨b, 0, none⟩), .slice A l.length c] w (WF r (t ++ wt d l) B b w)
  | 0, _, _, _, _, _, _, _, _, h, _, _, _, _, _, _ => by cases h
  | d + 1, l, r, A, c, B, b, t, w, h, hn, hA, hc, hlo, hbl, hlen => by
    have ih := first_any d
    cases l with
    | nil => cases h
    | cons n l =>
      obtain ⟨G, O, rfl⟩ := hn.shape (by simp)
      have e0 := hn.cell (i := 0) (by simp) 0 _ rfl
      have e1 := hn.cell (i := 0) (by simp) 1 _ rfl
      have e2 := hn.cell (i := 0) (by simp) 2 _ rfl
      have e3 := hn.cell (i := 0) (by simp) 3 _ rfl
      have e4 := hn.cell (i := 0) (by simp) 4 _ rfl
      have e5 := hn.cell (i := 0) (by simp) 5 _ rfl
      rw [show nd (n :: l) 0 = n from rfl] at e0 e1 e2 e3 e4 e5
      rw [Nat.zero_mul, Nat.add_zero] at e0 e1 e2 e3 e4 e5
      rw [ex_cons] at h
      have hrn : rn n = true := by
        rcases Bool.eq_false_or_eq_true (rn n) with hr | hr
        · exact hr
        · rw [hr] at h; cases h
      rw [if_pos hrn] at h
      have hGB : G < B := hA _ rfl
      obtain ⟨A', hA'⟩ : ∃ A', (if c = 1 then some ⟨G, O, none⟩ else some ⟨G, O + 6, none⟩ : Option Addr) = A' := ⟨_, rfl⟩
      have HA2 : Hid ((∀ a, A' = some a → a.block < B) ∧ Nds w A' l) := by
        show _ ∧ _
        rw [List.length_cons] at hc
        by_cases hc1 : c = 1
        · rw [if_pos hc1] at hA'
          subst hA'
          have : l = [] := List.eq_nil_of_length_eq_zero (by omega)
          subst this
          exact ⟨fun a e => by rw [← Option.some.inj e]; exact hGB, Nds.nil _ _⟩
        · rw [if_neg hc1] at hA'
          subst hA'
          refine ⟨fun a e => by rw [← Option.some.inj e]; exact hGB, ?_⟩
          have := hn.drop 1
          rw [Nat.one_mul] at this
          exact this
      have HLO := Lib.hid hlo; have HBL := Lib.hid hbl; have HX := Lib.hid h; have HI := Lib.hid ih
      clear hn hA hlo hbl h ih
      rw [List.length_cons] at hlen hc ⊢
      have hGlt : G < w.heap.size := block_lt_of_cell e0
      have hG1 : ¬ G = w.heap.size := by omega
      have hG2 : ¬ w.heap.size = G := by omega
      have hl1 : (1 : Int) ≤ (l.length : Int) + 1 := by omega
      have HWT : Hid (wt (d + 1) (n :: l) = if n.o = 0 then wr n.v else if n.o = 1 then nm n.v.n else 40 :: (wd n.o ++ (ts (wt d) (ex d) (pa n.o) l ++ [41]))) := wt_cons d n l
      have HRN := Lib.hid (rn_cases hrn)
      clear hrn
      generalize wt (d + 1) (n :: l) = T at *
      obtain ⟨o, v⟩ := n
      dsimp only at *
      have hcl : l.length ≤ c - 1 := by omega
      by_cases h0 : o = 0
      · subst h0
        have HR : Hid (r = l ∧ T = wr v ∧ rt v = true) := by
          show _ ∧ _ ∧ _
          refine ⟨?_, HWT.out.trans (if_pos rfl), ?_⟩
          · have := HX.out
            rw [show pa 0 = 0 from rfl, it_zero] at this
            exact (Option.some.inj this).symm
          · rcases HRN.out with ⟨_, h⟩ | ⟨h, _⟩ | ⟨h, _⟩
            · exact h
            · cases h
            · exact absurd h.1 (by decide)
        obtain rfl := HR.out.1
        have HWV : Hid (∀ w, Tab w → Calls Tryd.prog 34 #[.agg #[.int .i64 v.k, .int .i64 v.n, .string (tx v.s), .int .i64 v.x, .int .i64 v.y]] w (Gives (.string (tx (wr v))) w)) := fun w ht => by
          have h := write_yes (k := v.k) (n := v.n) (x := v.x) (y := v.y) (s := tx v.s) (by rw [tx_list]; exact HR.out.2.2) w ht
          rw [tx_list] at h
          exact h
        have hwl : (tx (wr v)).size ≤ 12290 := by rw [tx_size]; exact wr_le HR.out.2.2
        have HTX : Hid (t ++ (tx (wr v)).data.toList = t ++ T) := by show _ = _; rw [tx_list, HR.out.2.1]
        clear HX HRN HWT HI HR
        generalize tx (wr v) = s at *
        go_enter Tryd.func23, Tryd.ntmps23
        go_wp2_with (fail)
        go_region
        have hb1 : Below w.heap.size w ((w.alloc (.cells #[.int .i64 0, .int .i64 v.k, .int .i64 v.n, .string (tx v.s), .int .i64 v.x, .int .i64 v.y] 53)).drew) := below_drewN (box1 w _) 1
        have hx1 : Bx ((w.alloc (.cells #[.int .i64 0, .int .i64 v.k, .int .i64 v.n, .string (tx v.s), .int .i64 v.x, .int .i64 v.y] 53)).drew) w.heap.size ⟨0, v⟩ := heap_alloc_new w _
        generalize (w.alloc (.cells #[.int .i64 0, .int .i64 v.k, .int .i64 v.n, .string (tx v.s), .int .i64 v.x, .int .i64 v.y] 53)).drew = w1 at *
        have HB1 := Lib.hid hb1
        have HLO1 := Lib.hid (HLO.out.below (hb1.mono HLO.out.le))
        have c0 := hx1.cell 0 _ rfl
        have c1 := hx1.cell 1 _ rfl
        have c2 := hx1.cell 2 _ rfl
        have c3 := hx1.cell 3 _ rfl
        have c4 := hx1.cell 4 _ rfl
        have c5 := hx1.cell 5 _ rfl
        clear hb1 hx1 e0 e1 e2 e3 e4 e5
        go_wp2_with (fail)
        refine (HWV.out _ HLO1.out.tab).mono ?_
        rintro e w2 ⟨rfl, hb2⟩
        have HB2 := Lib.hid (Below.next HB1.out hb2)
        have HBL2 := Lib.hid (HBL.out.old HB2.out)
        have hB2 : B ≤ w2.heap.size := Nat.le_trans HLO.out.le HB2.out.size
        clear hb2 c0 c1 c2 c3 c4 c5
        go_wp2_with (fail)
        refine (writeK_any B b t s _ HBL2.out (by omega) hB2).mono ?_
        rintro e w3 ⟨rfl, hbl3, hb3, hk3⟩
        have HBL3 := Lib.hid (hbl3.cast HTX.out)
        have HB3 := Lib.hid ((HB2.out.mono HLO.out.le).trans hb3)
        have HK3 := Lib.hid ((Kept.of_below HB2.out).trans hk3)
        clear hbl3 hb3 hk3
        go_wp2_with (fail)
        go_ret
        exact ⟨A', c - 1, rfl, HA2.out.2.below HA2.out.1 HB3.out, HA2.out.1, hcl, HBL3.out, HB3.out, HK3.out⟩
      by_cases h1 : o = 1
      · subst h1
        obtain ⟨vk, vn, vs, vx, vy⟩ := v
        dsimp only at *
        have hv5 : 0 ≤ vn ∧ vn < 5 := by
          rcases HRN.out with ⟨h, _⟩ | ⟨_, _, h⟩ | ⟨h, _⟩
          · cases h
          · exact h
          · exact absurd h.1 (by decide)
        obtain ⟨i, rfl⟩ : ∃ i : Nat, vn = (i : Int) := ⟨vn.toNat, by omega⟩
        have hi : i < 5 := by omega
        have HR : Hid (r = l ∧ T = nm (i : Int)) := by
          show _ ∧ _
          refine ⟨?_, HWT.out.trans ((if_neg (by decide)).trans (if_pos rfl))⟩
          have := HX.out
          rw [show pa 1 = 0 from rfl, it_zero] at this
          exact (Option.some.inj this).symm
        obtain rfl := HR.out.1
        have hwl : (tx nml[i]!).size ≤ 3 := by rw [tx_size, ← nm_at hi]; exact (nm_in hv5).2
        have HTX : Hid (t ++ (tx nml[i]!).data.toList = t ++ T) := by show _ = _; rw [tx_list, HR.out.2, nm_at hi]
        have HNM : Hid (∀ w, KN w → w.cell? ⟨1, i, none⟩ = some (.string (tx nml[i]!))) := fun w h => h.name i hi
        clear HX HRN HWT HI HR h0
        generalize tx nml[i]! = sn at *
        generalize tx vs = s at *
        go_enter Tryd.func23, Tryd.ntmps23
        go_wp2_with (fail)
        go_region
        have hb1 : Below w.heap.size w ((w.alloc (.cells #[.int .i64 1, .int .i64 vk, .int .i64 (i : Int), .string s, .int .i64 vx, .int .i64 vy] 53)).drew) := below_drewN (box1 w _) 1
        have c2 : ((w.alloc (.cells #[.int .i64 1, .int .i64 vk, .int .i64 (i : Int), .string s, .int .i64 vx, .int .i64 vy] 53)).drew).cell? ⟨w.heap.size, 2, none⟩ = some (.int .i64 (i : Int)) := (Blk.made w 53 [.int .i64 1, .int .i64 vk, .int .i64 (i : Int), .string s, .int .i64 vx, .int .i64 vy] rfl).c 2 _ rfl
        have c0 : ((w.alloc (.cells #[.int .i64 1, .int .i64 vk, .int .i64 (i : Int), .string s, .int .i64 vx, .int .i64 vy] 53)).drew).cell? ⟨w.heap.size, 0, none⟩ = some (.int .i64 1) := (Blk.made w 53 [.int .i64 1, .int .i64 vk, .int .i64 (i : Int), .string s, .int .i64 vx, .int .i64 vy] rfl).c 0 _ rfl
        generalize (w.alloc (.cells #[.int .i64 1, .int .i64 vk, .int .i64 (i : Int), .string s, .int .i64 vx, .int .i64 vy] 53)).drew = w1 at *
        have HB1 := Lib.hid hb1
        have HLO1 := Lib.hid (HLO.out.below (hb1.mono HLO.out.le))
        have HBL1 := Lib.hid (HBL.out.old hb1)
        have hB1 : B ≤ w1.heap.size := Nat.le_trans HLO.out.le hb1.size
        have cN := HNM.out w1 HLO1.out.kn
        clear hb1 e0 e1 e2 e3 e4 e5
        go_wp2_with (fail)
        refine (writeK_any B b t sn _ HBL1.out (by omega) hB1).mono ?_
        rintro e w3 ⟨rfl, hbl3, hb3, hk3⟩
        have HBL3 := Lib.hid (hbl3.cast HTX.out)
        have HB3 := Lib.hid ((HB1.out.mono HLO.out.le).trans hb3)
        have HK3 := Lib.hid ((Kept.of_below HB1.out).trans hk3)
        clear hbl3 hb3 hk3 c0 c2 cN
        go_wp2_with (fail)
        go_ret
        exact ⟨A', c - 1, rfl, HA2.out.2.below HA2.out.1 HB3.out, HA2.out.1, hcl, HBL3.out, HB3.out, HK3.out⟩
      · have ho : 2 ≤ o ∧ o ≤ 29 := by
          rcases HRN.out with ⟨h, _⟩ | ⟨h, _⟩ | ⟨h, _⟩
          · exact absurd h h0
          · exact absurd h h1
          · exact h
        obtain ⟨i, rfl⟩ : ∃ i : Nat, o = (i : Int) := ⟨o.toNat, by omega⟩
        have hi : i < 30 := by omega
        have hk5 := (kind_in ho).2.2
        have g0 : ((i : Int) == 0) = false := beq_eq_false_iff_ne.2 h0
        have g1 : ((i : Int) == 1) = false := beq_eq_false_iff_ne.2 h1
        have HT : Hid (T = 40 :: (wdl[i]! ++ (ts (wt d) (ex d) ptl[i]! l ++ [41]))) := by
          show _ = _
          rw [HWT.out, if_neg h0, if_neg h1, wd_at hi, pa_at hi]
        have HX1 : Hid (it (ex d) ptl[i]! l = some r) := by show _ = _; rw [← pa_at hi]; exact HX.out
        have hwl : (tx wdl[i]!).size ≤ 5 := by rw [tx_size, ← wd_at hi]; exact hk5
        have hp3 : ptl[i]! ≤ 3 := by rw [← pa_at hi]; exact pa_le _
        have HKK : Hid (∀ w, KN w → w.cell? ⟨0, i * 2, none⟩ = some (.string (tx wdl[i]!)) ∧ w.cell? ⟨0, i * 2 + 1, none⟩ = some (.int .i64 ((ptl[i]! : Nat) : Int))) := fun w h => by
          have a := h.word i hi
          have b := h.parts i hi
          rw [Nat.mul_comm] at a b
          exact ⟨a, b⟩
        have HSN : Hid ((tx wdl[i]!).data.toList = wdl[i]!) := tx_list _
        have hwl2 : (wdl[i]!).length ≤ 5 := by rw [← wd_at hi]; exact hk5
        clear HX HRN HWT h0 h1 ho hk5
        generalize wdl[i]! = wl at *
        generalize ptl[i]! = p at *
        generalize tx wl = sn at *
        generalize tx v.s = s at *
        generalize v.k = vk at *
        generalize v.n = vn at *
        generalize v.x = vx at *
        generalize v.y = vy at *
        go_enter Tryd.func23, Tryd.ntmps23
        go_wp2_with (fail)
        go_region
        have hb1 : Below w.heap.size w ((w.alloc (.cells #[.int .i64 (i : Int), .int .i64 vk, .int .i64 vn, .string s, .int .i64 vx, .int .i64 vy] 53)).drew) := below_drewN (box1 w _) 1
        have hx1 : Bx0 ((w.alloc (.cells #[.int .i64 (i : Int), .int .i64 vk, .int .i64 vn, .string s, .int .i64 vx, .int .i64 vy] 53)).drew) w.heap.size (i : Int) := ⟨_, heap_alloc_new w _, rfl⟩
        generalize (w.alloc (.cells #[.int .i64 (i : Int), .int .i64 vk, .int .i64 vn, .string s, .int .i64 vx, .int .i64 vy] 53)).drew = w1 at *
        have HBX1 := Lib.hid hx1
        have HB1 := Lib.hid (hb1.mono HLO.out.le)
        have HKP1 := Lib.hid (Kept.of_below (b := b) hb1)
        have HLO1 := Lib.hid (HLO.out.below HB1.out)
        have HBL1 := Lib.hid (HBL.out.old hb1)
        have hbx : w.heap.size ≠ b := by have := HBL.out.lt; omega
        have HNE := Lib.hid hbx
        have c0 := hx1.cell
        have HBY : Hid (∀ (q : UInt8) (z : Int), (q.toNat : Int) = z → ∀ l w, BldF B b l w → l.length + 1 ≤ 140737488355328 → B ≤ w.heap.size → Calls Tryd.prog 35 #[.pointer (some ⟨b, 0, none⟩), .int .u8 z] w fun e w' => e = .returned .nilIface ∧ BldF B b (l ++ [q]) w' ∧ Below B w w' ∧ Kept b w w') :=
          fun q z hz l w h1 h2 h3 => by subst hz; exact byteK_any B b l q w h1 h2 h3
        clear hb1 hx1 e0 e1 e2 e3 e4 e5 hbx HBL HLO
        generalize w.heap.size = bx at *
        go_wp2_with (fail)
        refine (HBY.out 40 40 rfl t _ HBL1.out (by omega) HLO1.out.le).mono ?_
        rintro e w2 ⟨rfl, hbl, hb, hk⟩
        have HBL2 := Lib.hid hbl
        have HB2 := Lib.hid (HB1.out.trans hb)
        have HKP2 := Lib.hid (HKP1.out.trans hk)
        have HBX2 := Lib.hid (HBX1.out.kept hk HNE.out)
        have HLO2 := Lib.hid (HLO1.out.below hb)
        clear hbl hb hk c0 HB1 HKP1 HBX1 HLO1 HBL1
        have c0 := HBX2.out.cell
        have ck := (HKK.out _ HLO2.out.kn).1
        go_wp2_with (fail)
        refine (writeK_any B b (t ++ [40]) sn _ HBL2.out (by simp; omega) HLO2.out.le).mono ?_
        rintro e w3 ⟨rfl, hbl, hb, hk⟩
        have HBL3 := Lib.hid (hbl.cast (show t ++ [40] ++ sn.data.toList = t ++ 40 :: wl by rw [HSN.out]; simp))
        have HB3 := Lib.hid (HB2.out.trans hb)
        have HKP3 := Lib.hid (HKP2.out.trans hk)
        have HBX3 := Lib.hid (HBX2.out.kept hk HNE.out)
        have HLO3 := Lib.hid (HLO2.out.below hb)
        clear hbl hb hk c0 ck HB2 HKP2 HBX2 HLO2 HBL2
        have c0 := HBX3.out.cell
        have ck := (HKK.out _ HLO3.out.kn).2
        go_wp2_with (fail)
        clear c0 ck
        have HFULL : Hid (∀ dn, dn = t ++ 40 :: (wl ++ ts (wt d) (ex d) p l) → dn ++ [41] = t ++ T) := fun dn e => by rw [e, HT.out]; simp
        have HR0 : Hid (RW w3 d p r (t ++ 40 :: (wl ++ ts (wt d) (ex d) p l)) B b 0 l A' (c - 1) (t ++ 40 :: wl) w3) :=
          ⟨Nat.zero_le _, HX1.out, HA2.out.2.below HA2.out.1 HB3.out, HA2.out.1, hcl, by simp, by simp; omega, HBL3.out, HLO3.out, Below.refl _ _, Kept.refl _ _⟩
        generalize t ++ 40 :: (wl ++ ts (wt d) (ex d) p l) = full at *
        clear HBX3 HLO3 HBL3 HX1 HT HKK HSN HA2
        go_loopw [6, 46] (fun rest cnt wr => ∃ (j : Nat) (R : List No) (AR : Option Addr) (cR : Nat) (dn : List UInt8), cnt = .int .i64 (j : Int) ∧ rest = .slice AR R.length cR ∧ RW w3 d p r full B b j R AR cR dn wr) (fun _ cnt _ => p - (intOf cnt).toNat)
        case atStart => exact ⟨0, l, A', c - 1, t ++ 40 :: wl, rfl, rfl, HR0.out⟩
        case round =>
          obtain ⟨j, R, AR, cR, dn, rfl, rfl, hrw⟩ := hrel
          have HRW := Lib.hid hrw
          clear hrw HR0
          have hlen2 := HRW.out.len
          by_cases hlt : j < p
          · have hz := HRW.out.it
            rw [show p - j = (p - (j + 1)) + 1 by omega, it_succ] at hz
            obtain ⟨R1, h1, h2⟩ := Option.bind_eq_some_iff.1 hz
            have hw1 := wt_max d _ _ h1
            have HTS : Hid (dn ++ [32] ++ wt d R ++ ts (wt d) (ex d) (p - (j + 1)) R1 = full) := by
              show _ = _
              have := HRW.out.txt
              rw [show p - j = (p - (j + 1)) + 1 by omega, ts_succ h1] at this
              rw [← this]; simp
            have HC : Hid (∀ w, Nds w AR R → Lo w B → BldF B b (dn ++ [32]) w → Calls Tryd.prog 23 #[.pointer (some ⟨b, 0, none⟩), .slice AR R.length cR] w (WF R1 (dn ++ [32] ++ wt d R) B b w)) :=
              fun w g1 g2 g3 => HI.out R R1 AR cR B b (dn ++ [32]) w h1 g1 HRW.out.lo HRW.out.cap g2 g3 (by simp; omega)
            have HZ := Lib.hid h2
            clear hz h1 h2
            go_wp2_with (fail)
            refine (HBY.out 32 32 rfl dn _ HRW.out.bld (by omega) HRW.out.tab.le).mono ?_
            rintro e w5 ⟨rfl, hbl, hb, hk⟩
            have HBL5 := Lib.hid hbl
            have HB5 := Lib.hid (HRW.out.below.trans hb)
            have HKP5 := Lib.hid (HRW.out.kept.trans hk)
            have HLO5 := Lib.hid (HRW.out.tab.below hb)
            have HN5 := Lib.hid (HRW.out.nds.below HRW.out.lo hb)
            clear hbl hb hk
            go_wp2_with (fail)
            refine (HC.out _ HN5.out HLO5.out HBL5.out).mono ?_
            rintro e w6 ⟨A6, c6, rfl, hnd, hlo6, hcap, hbl, hb, hk⟩
            have HRW6 : Hid (RW w3 d p r full B b (j + 1) R1 A6 c6 (dn ++ [32] ++ wt d R) w6) :=
              ⟨by omega, HZ.out, hnd, hlo6, hcap, HTS.out, by simp; omega, hbl, HLO5.out.below hb, HB5.out.trans hb, HKP5.out.trans hk⟩
            clear hnd hlo6 hcap hbl hb hk HTS HC HZ hw1
            go_wp2_with (fail)
            go_roundw
            case rel => exact ⟨j + 1, R1, A6, c6, _, by go_num, rfl, HRW6.out⟩
            case measure => simp [intOf]; omega
          · have HE : Hid (R = r) := by
              show _ = _
              have hz := HRW.out.it
              rw [show p - j = 0 by omega, it_zero] at hz
              exact Option.some.inj hz
            have HD : Hid (dn ++ [41] = t ++ T) := HFULL.out dn (by
              have := HRW.out.txt
              rw [show p - j = 0 by omega] at this
              rw [← this]
              exact (List.append_nil _).symm)
            go_wp2_with (fail)
            refine (HBY.out 41 41 rfl dn _ HRW.out.bld (by omega) HRW.out.tab.le).mono ?_
            rintro e w5 ⟨rfl, hbl, hb, hk⟩
            have HBL5 := Lib.hid (hbl.cast HD.out)
            have HB5 := Lib.hid (HB3.out.trans (HRW.out.below.trans hb))
            have HKP5 := Lib.hid (HKP3.out.trans (HRW.out.kept.trans hk))
            have HN5 := Lib.hid (HRW.out.nds.below HRW.out.lo hb)
            clear hbl hb hk
            go_wp2_with (fail)
            go_ret
            obtain rfl := HE.out
            exact ⟨AR, cR, rfl, HN5.out, HRW.out.lo, HRW.out.cap, HBL5.out, HB5.out, HKP5.out⟩
/-- What Write answers. -/
def wq (l : List No) : List UInt8 × Nat := if Rt l = true then (if 4096 < (wt 25 l).length then ([], 3) else (wt 25 l, 0)) else ([], 1)
set_option maxRecDepth 100000 in
set_option maxHeartbeats 2000000 in
theorem ewrite_any (l : List No) (A : Option Addr) (c : Nat) (w : World) (hn : Nds w A l) (hk : KN w) (ht : Tab w) (hc : l.length ≤ c) (hl : l.length ≤ 4294967296) :
    Calls Tryd.prog 9 #[.slice A l.length c] w (Gives (.tuple #[.string (tx (wq l).1), .int .i64 ((wq l).2 : Int)]) w) := by
  have HR := Lib.hid (eright_any l A c w hn hk hl)
  have HN := Lib.hid hn; have HK := Lib.hid hk; have HT := Lib.hid ht
  clear hn hk ht
  rcases Bool.eq_false_or_eq_true (Rt l) with hr | hr
  · rw [hr] at HR
    obtain ⟨h4, hex⟩ := Rt_in hr
    have hpos : 0 < l.length := by
      cases l with
      | nil => cases hex
      | cons n t => simp
    obtain ⟨G, O, rfl⟩ := HN.out.shape hpos
    have hmax := wt_max 25 l [] hex
    have HEX := Lib.hid hex
    have HQ : Hid (wq l = if 4096 < (wt 25 l).length then ([], 3) else (wt 25 l, 0)) := by show _ = _; unfold wq; rw [if_pos hr]
    clear hr hex
    go_enter Tryd.func9, Tryd.ntmps9
    go_wp2_with (fail)
    refine HR.out.mono ?_
    rintro e w1 ⟨rfl, hb⟩
    have HB1 := Lib.hid hb
    have hb2 := box1 w1 (.cells #[.pointer none, .slice none 0 0] 58)
    have HF2 := Lib.hid (BldF.fresh w1)
    have HG : Hid (G < w1.heap.size) := (HN.out.next hb).lt hpos
    have HN2 := Lib.hid ((HN.out.next hb).next hb2)
    have HLO2 := Lib.hid ((Lo.start (HK.out.next hb) (HT.out.next hb)).below hb2)
    have HB2 := Lib.hid (Below.next hb hb2)
    have hws := hb.size
    clear hb hb2 HR HN HK HT
    go_wp2_with (fail)
    generalize w1.alloc (.cells #[.pointer none, .slice none 0 0] 58) = w2 at *
    generalize hB : w1.heap.size = B at *
    have HBS := Lib.hid hB
    clear hB
    refine (first_any 25 l [] (some ⟨G, O, none⟩) c B B [] w2 HEX.out HN2.out (fun a e => by rw [← Option.some.inj e]; exact HG.out) hc HLO2.out HF2.out (by simp; omega)).mono ?_
    rintro e w3 ⟨A3, c3, rfl, _, _, _, hbl, hb3, _⟩
    rw [List.nil_append] at hbl
    have HBL3 := Lib.hid hbl
    have HB3 : Hid (Below w.heap.size w w3) := HB2.out.trans (hb3.mono hws)
    have hsz3 : B ≤ w3.heap.size := Nat.le_trans HLO2.out.le hb3.size
    clear hbl hb3 HF2 HN2 HLO2
    generalize wt 25 l = T at *
    go_wp2_with (fail)
    refine (lenK_any B B T _ HBL3.out).mono ?_
    rintro e w' ⟨rfl, rfl⟩
    by_cases hT : 4096 < T.length
    · have HE : Hid (wq l = ([], 3)) := HQ.out.trans (if_pos hT)
      go_wp2_with (fail)
      go_ret2
      exact ⟨by rw [HE.out]; rfl, HB3.out⟩
    · have HE : Hid (wq l = (T, 0)) := HQ.out.trans (if_neg hT)
      go_wp2_with (fail)
      refine (stringK_any B B T _ HBL3.out hsz3).mono ?_
      rintro e w4 ⟨rfl, _, hb4, _⟩
      have HB4 : Hid (Below w.heap.size w w4) := HB3.out.trans (hb4.mono hws)
      clear hb4
      go_wp2_with (fail)
      go_ret2
      exact ⟨by rw [HE.out]; rfl, HB4.out⟩
  · rw [hr] at HR
    have HE : Hid (wq l = ([], 1)) := by show _ = _; unfold wq; rw [if_neg (by rw [hr]; decide)]
    clear hr
    go_enter Tryd.func9, Tryd.ntmps9
    go_wp2_with (fail)
    refine HR.out.mono ?_
    rintro e w1 ⟨rfl, hb⟩
    have HB1 := Lib.hid hb
    clear hb
    go_wp2_with (fail)
    go_ret2
    exact ⟨by rw [HE.out]; rfl, HB1.out⟩
end Go.Proofs.YtoenilppcoifpaaDoor.Ex
/-
  The document's answers for layer 8: Word, Parts, Name (written by gen_exref.py).
-/
namespace Go.Proofs.YtoenilppcoifpaaDoor.Ex
open Go.ChangeShapes Go.WideShapes Go.ChangeAt Go.RowKit Go.Proofs.YtoenilppcoifpaaDoor.Ov Go.Proofs.YtoenilppcoifpaaDoor.Va

set_option maxRecDepth 100000 in
set_option maxHeartbeats 4000000 in
theorem word_var {i : Nat} (h : i < 28) (w : World) : Calls Tryd.prog 19 #[.int .i64 ((i : Int) + 2)] w (Gives (.string (tx wdl[i + 2]!)) w) := by
  have g1 : ¬ (i : Int) + 2 < 2 := by omega
  have g2 : ¬ 29 < (i : Int) + 2 := by omega
  have g3 : wrap64 ((i : Int) + 2 - 2) = (i : Int) := by rw [show (i : Int) + 2 - 2 = (i : Int) by omega]; unfold wrap64; omega
  have g4 : (i : Int) < 28 := by omega
  obtain ⟨t, ht⟩ : ∃ t, wdl[i + 2]! = t := ⟨_, rfl⟩
  rw [ht]
  have HT := Lib.hid ht
  clear ht
  go_enter Tryd.func19, Tryd.ntmps19
  go_wp2_with (fail)
  go_ret
  refine ⟨?_, box1 w _⟩
  show Ending.returned (((wdl.drop 2).map fun t => Value.string (tx t))[i]'(by rw [List.length_map, List.length_drop]; exact h)) = _
  have hw : i + 2 < wdl.length := by show i + 2 < 30; omega
  have e : wdl[i + 2]! = wdl[2 + i]'(by omega) := by
    rw [List.getElem!_eq_getElem?_getD, List.getElem?_eq_getElem hw, Option.getD_some]
    simp only [Nat.add_comm]
  rw [← HT.out, e, List.getElem_map, List.getElem_drop]
theorem word_2 (w : World) : Calls Tryd.prog 19 #[.int .i64 2] w (Gives (.string ⟨#[97, 100, 100]⟩) w) := word_var (i := 0) (by decide) w
theorem word_3 (w : World) : Calls Tryd.prog 19 #[.int .i64 3] w (Gives (.string ⟨#[115, 117, 98]⟩) w) := word_var (i := 1) (by decide) w
theorem word_4 (w : World) : Calls Tryd.prog 19 #[.int .i64 4] w (Gives (.string ⟨#[109, 117, 108]⟩) w) := word_var (i := 2) (by decide) w
theorem word_5 (w : World) : Calls Tryd.prog 19 #[.int .i64 5] w (Gives (.string ⟨#[100, 105, 118]⟩) w) := word_var (i := 3) (by decide) w
theorem word_6 (w : World) : Calls Tryd.prog 19 #[.int .i64 6] w (Gives (.string ⟨#[109, 111, 100]⟩) w) := word_var (i := 4) (by decide) w
theorem word_7 (w : World) : Calls Tryd.prog 19 #[.int .i64 7] w (Gives (.string ⟨#[110, 101, 103]⟩) w) := word_var (i := 5) (by decide) w
theorem word_8 (w : World) : Calls Tryd.prog 19 #[.int .i64 8] w (Gives (.string ⟨#[108, 101, 115, 115]⟩) w) := word_var (i := 6) (by decide) w
theorem word_9 (w : World) : Calls Tryd.prog 19 #[.int .i64 9] w (Gives (.string ⟨#[115, 97, 109, 101]⟩) w) := word_var (i := 7) (by decide) w
theorem word_10 (w : World) : Calls Tryd.prog 19 #[.int .i64 10] w (Gives (.string ⟨#[110, 111, 116]⟩) w) := word_var (i := 8) (by decide) w
theorem word_11 (w : World) : Calls Tryd.prog 19 #[.int .i64 11] w (Gives (.string ⟨#[105, 102]⟩) w) := word_var (i := 9) (by decide) w
theorem word_12 (w : World) : Calls Tryd.prog 19 #[.int .i64 12] w (Gives (.string ⟨#[109, 97, 120]⟩) w) := word_var (i := 10) (by decide) w
theorem word_13 (w : World) : Calls Tryd.prog 19 #[.int .i64 13] w (Gives (.string ⟨#[109, 105, 110]⟩) w) := word_var (i := 11) (by decide) w
theorem word_14 (w : World) : Calls Tryd.prog 19 #[.int .i64 14] w (Gives (.string ⟨#[99, 97, 116]⟩) w) := word_var (i := 12) (by decide) w
theorem word_15 (w : World) : Calls Tryd.prog 19 #[.int .i64 15] w (Gives (.string ⟨#[108, 101, 110]⟩) w) := word_var (i := 13) (by decide) w
theorem word_16 (w : World) : Calls Tryd.prog 19 #[.int .i64 16] w (Gives (.string ⟨#[99, 117, 116]⟩) w) := word_var (i := 14) (by decide) w
theorem word_17 (w : World) : Calls Tryd.prog 19 #[.int .i64 17] w (Gives (.string ⟨#[119, 111, 114, 100]⟩) w) := word_var (i := 15) (by decide) w
theorem word_18 (w : World) : Calls Tryd.prog 19 #[.int .i64 18] w (Gives (.string ⟨#[119, 111, 114, 100, 115]⟩) w) := word_var (i := 16) (by decide) w
theorem word_19 (w : World) : Calls Tryd.prog 19 #[.int .i64 19] w (Gives (.string ⟨#[110, 117, 109]⟩) w) := word_var (i := 17) (by decide) w
theorem word_20 (w : World) : Calls Tryd.prog 19 #[.int .i64 20] w (Gives (.string ⟨#[116, 101, 120, 116]⟩) w) := word_var (i := 18) (by decide) w
theorem word_21 (w : World) : Calls Tryd.prog 19 #[.int .i64 21] w (Gives (.string ⟨#[97, 116]⟩) w) := word_var (i := 19) (by decide) w
theorem word_22 (w : World) : Calls Tryd.prog 19 #[.int .i64 22] w (Gives (.string ⟨#[114, 101]⟩) w) := word_var (i := 20) (by decide) w
theorem word_23 (w : World) : Calls Tryd.prog 19 #[.int .i64 23] w (Gives (.string ⟨#[105, 109]⟩) w) := word_var (i := 21) (by decide) w
theorem word_24 (w : World) : Calls Tryd.prog 19 #[.int .i64 24] w (Gives (.string ⟨#[110, 111, 114, 109]⟩) w) := word_var (i := 22) (by decide) w
theorem word_25 (w : World) : Calls Tryd.prog 19 #[.int .i64 25] w (Gives (.string ⟨#[99, 111, 110, 106]⟩) w) := word_var (i := 23) (by decide) w
theorem word_26 (w : World) : Calls Tryd.prog 19 #[.int .i64 26] w (Gives (.string ⟨#[101, 109, 105, 116]⟩) w) := word_var (i := 24) (by decide) w
theorem word_27 (w : World) : Calls Tryd.prog 19 #[.int .i64 27] w (Gives (.string ⟨#[116, 104, 101, 110]⟩) w) := word_var (i := 25) (by decide) w
theorem word_28 (w : World) : Calls Tryd.prog 19 #[.int .i64 28] w (Gives (.string ⟨#[101, 97, 99, 104]⟩) w) := word_var (i := 26) (by decide) w
theorem word_29 (w : World) : Calls Tryd.prog 19 #[.int .i64 29] w (Gives (.string ⟨#[108, 101, 116]⟩) w) := word_var (i := 27) (by decide) w
theorem word_out {o : Int} (h : o < 2 ∨ 29 < o) (w : World) : Calls Tryd.prog 19 #[.int .i64 o] w (Gives (.string ⟨#[]⟩) w) := by
  by_cases h1 : o < 2
  · go_enter Tryd.func19, Tryd.ntmps19
    go_wp2_with (fail)
    go_ret
    exact ⟨rfl, Below.refl _ _⟩
  · have h2 : 29 < o := by omega
    clear h
    go_enter Tryd.func19, Tryd.ntmps19
    go_wp2_with (fail)
    go_ret
    exact ⟨rfl, Below.refl _ _⟩
theorem kind_each {p : Int → Prop} (h : ∀ o, o < 2 ∨ 29 < o → p o) (h2 : p 2) (h3 : p 3) (h4 : p 4) (h5 : p 5) (h6 : p 6) (h7 : p 7) (h8 : p 8) (h9 : p 9) (h10 : p 10) (h11 : p 11) (h12 : p 12) (h13 : p 13) (h14 : p 14) (h15 : p 15) (h16 : p 16) (h17 : p 17) (h18 : p 18) (h19 : p 19) (h20 : p 20) (h21 : p 21) (h22 : p 22) (h23 : p 23) (h24 : p 24) (h25 : p 25) (h26 : p 26) (h27 : p 27) (h28 : p 28) (h29 : p 29) (o : Int) : p o := by
  by_cases ho : o < 2 ∨ 29 < o
  · exact h o ho
  by_cases e2 : o = 2
  · rw [e2]; exact h2
  by_cases e3 : o = 3
  · rw [e3]; exact h3
  by_cases e4 : o = 4
  · rw [e4]; exact h4
  by_cases e5 : o = 5
  · rw [e5]; exact h5
  by_cases e6 : o = 6
  · rw [e6]; exact h6
  by_cases e7 : o = 7
  · rw [e7]; exact h7
  by_cases e8 : o = 8
  · rw [e8]; exact h8
  by_cases e9 : o = 9
  · rw [e9]; exact h9
  by_cases e10 : o = 10
  · rw [e10]; exact h10
  by_cases e11 : o = 11
  · rw [e11]; exact h11
  by_cases e12 : o = 12
  · rw [e12]; exact h12
  by_cases e13 : o = 13
  · rw [e13]; exact h13
  by_cases e14 : o = 14
  · rw [e14]; exact h14
  by_cases e15 : o = 15
  · rw [e15]; exact h15
  by_cases e16 : o = 16
  · rw [e16]; exact h16
  by_cases e17 : o = 17
  · rw [e17]; exact h17
  by_cases e18 : o = 18
  · rw [e18]; exact h18
  by_cases e19 : o = 19
  · rw [e19]; exact h19
  by_cases e20 : o = 20
  · rw [e20]; exact h20
  by_cases e21 : o = 21
  · rw [e21]; exact h21
  by_cases e22 : o = 22
  · rw [e22]; exact h22
  by_cases e23 : o = 23
  · rw [e23]; exact h23
  by_cases e24 : o = 24
  · rw [e24]; exact h24
  by_cases e25 : o = 25
  · rw [e25]; exact h25
  by_cases e26 : o = 26
  · rw [e26]; exact h26
  by_cases e27 : o = 27
  · rw [e27]; exact h27
  by_cases e28 : o = 28
  · rw [e28]; exact h28
  by_cases e29 : o = 29
  · rw [e29]; exact h29
  omega
theorem word_any (o : Int) : ∀ w : World, Calls Tryd.prog 19 #[.int .i64 o] w (Gives (.string (tx (wd o))) w) :=
  kind_each (p := fun o => ∀ w : World, Calls Tryd.prog 19 #[.int .i64 o] w (Gives (.string (tx (wd o))) w)) (fun o h w => by rw [(kind_out (by omega)).1]; exact word_out h w) word_2 word_3 word_4 word_5 word_6 word_7 word_8 word_9 word_10 word_11 word_12 word_13 word_14 word_15 word_16 word_17 word_18 word_19 word_20 word_21 word_22 word_23 word_24 word_25 word_26 word_27 word_28 word_29 o
set_option maxRecDepth 100000 in
theorem parts_2 (w : World) : Calls Tryd.prog 20 #[.int .i64 2] w (Gives (.int .i64 2) w) := by
  go_enter Tryd.func20, Tryd.ntmps20
  go_wp2_with (fail)
  refine (word_2 _).mono ?_
  rintro e w1 ⟨rfl, hb⟩
  have HB := Lib.hid hb; clear hb
  go_wp2_with (fail)
  go_ret
  exact ⟨rfl, HB.out⟩
set_option maxRecDepth 100000 in
theorem parts_3 (w : World) : Calls Tryd.prog 20 #[.int .i64 3] w (Gives (.int .i64 2) w) := by
  go_enter Tryd.func20, Tryd.ntmps20
  go_wp2_with (fail)
  refine (word_3 _).mono ?_
  rintro e w1 ⟨rfl, hb⟩
  have HB := Lib.hid hb; clear hb
  go_wp2_with (fail)
  go_ret
  exact ⟨rfl, HB.out⟩
set_option maxRecDepth 100000 in
theorem parts_4 (w : World) : Calls Tryd.prog 20 #[.int .i64 4] w (Gives (.int .i64 2) w) := by
  go_enter Tryd.func20, Tryd.ntmps20
  go_wp2_with (fail)
  refine (word_4 _).mono ?_
  rintro e w1 ⟨rfl, hb⟩
  have HB := Lib.hid hb; clear hb
  go_wp2_with (fail)
  go_ret
  exact ⟨rfl, HB.out⟩
set_option maxRecDepth 100000 in
theorem parts_5 (w : World) : Calls Tryd.prog 20 #[.int .i64 5] w (Gives (.int .i64 2) w) := by
  go_enter Tryd.func20, Tryd.ntmps20
  go_wp2_with (fail)
  refine (word_5 _).mono ?_
  rintro e w1 ⟨rfl, hb⟩
  have HB := Lib.hid hb; clear hb
  go_wp2_with (fail)
  go_ret
  exact ⟨rfl, HB.out⟩
set_option maxRecDepth 100000 in
theorem parts_6 (w : World) : Calls Tryd.prog 20 #[.int .i64 6] w (Gives (.int .i64 2) w) := by
  go_enter Tryd.func20, Tryd.ntmps20
  go_wp2_with (fail)
  refine (word_6 _).mono ?_
  rintro e w1 ⟨rfl, hb⟩
  have HB := Lib.hid hb; clear hb
  go_wp2_with (fail)
  go_ret
  exact ⟨rfl, HB.out⟩
set_option maxRecDepth 100000 in
theorem parts_7 (w : World) : Calls Tryd.prog 20 #[.int .i64 7] w (Gives (.int .i64 1) w) := by
  go_enter Tryd.func20, Tryd.ntmps20
  go_wp2_with (fail)
  refine (word_7 _).mono ?_
  rintro e w1 ⟨rfl, hb⟩
  have HB := Lib.hid hb; clear hb
  go_wp2_with (fail)
  go_ret
  exact ⟨rfl, HB.out⟩
set_option maxRecDepth 100000 in
theorem parts_8 (w : World) : Calls Tryd.prog 20 #[.int .i64 8] w (Gives (.int .i64 2) w) := by
  go_enter Tryd.func20, Tryd.ntmps20
  go_wp2_with (fail)
  refine (word_8 _).mono ?_
  rintro e w1 ⟨rfl, hb⟩
  have HB := Lib.hid hb; clear hb
  go_wp2_with (fail)
  go_ret
  exact ⟨rfl, HB.out⟩
set_option maxRecDepth 100000 in
theorem parts_9 (w : World) : Calls Tryd.prog 20 #[.int .i64 9] w (Gives (.int .i64 2) w) := by
  go_enter Tryd.func20, Tryd.ntmps20
  go_wp2_with (fail)
  refine (word_9 _).mono ?_
  rintro e w1 ⟨rfl, hb⟩
  have HB := Lib.hid hb; clear hb
  go_wp2_with (fail)
  go_ret
  exact ⟨rfl, HB.out⟩
set_option maxRecDepth 100000 in
theorem parts_10 (w : World) : Calls Tryd.prog 20 #[.int .i64 10] w (Gives (.int .i64 1) w) := by
  go_enter Tryd.func20, Tryd.ntmps20
  go_wp2_with (fail)
  refine (word_10 _).mono ?_
  rintro e w1 ⟨rfl, hb⟩
  have HB := Lib.hid hb; clear hb
  go_wp2_with (fail)
  go_ret
  exact ⟨rfl, HB.out⟩
set_option maxRecDepth 100000 in
theorem parts_11 (w : World) : Calls Tryd.prog 20 #[.int .i64 11] w (Gives (.int .i64 3) w) := by
  go_enter Tryd.func20, Tryd.ntmps20
  go_wp2_with (fail)
  refine (word_11 _).mono ?_
  rintro e w1 ⟨rfl, hb⟩
  have HB := Lib.hid hb; clear hb
  go_wp2_with (fail)
  go_ret
  exact ⟨rfl, HB.out⟩
set_option maxRecDepth 100000 in
theorem parts_12 (w : World) : Calls Tryd.prog 20 #[.int .i64 12] w (Gives (.int .i64 2) w) := by
  go_enter Tryd.func20, Tryd.ntmps20
  go_wp2_with (fail)
  refine (word_12 _).mono ?_
  rintro e w1 ⟨rfl, hb⟩
  have HB := Lib.hid hb; clear hb
  go_wp2_with (fail)
  go_ret
  exact ⟨rfl, HB.out⟩
set_option maxRecDepth 100000 in
theorem parts_13 (w : World) : Calls Tryd.prog 20 #[.int .i64 13] w (Gives (.int .i64 2) w) := by
  go_enter Tryd.func20, Tryd.ntmps20
  go_wp2_with (fail)
  refine (word_13 _).mono ?_
  rintro e w1 ⟨rfl, hb⟩
  have HB := Lib.hid hb; clear hb
  go_wp2_with (fail)
  go_ret
  exact ⟨rfl, HB.out⟩
set_option maxRecDepth 100000 in
theorem parts_14 (w : World) : Calls Tryd.prog 20 #[.int .i64 14] w (Gives (.int .i64 2) w) := by
  go_enter Tryd.func20, Tryd.ntmps20
  go_wp2_with (fail)
  refine (word_14 _).mono ?_
  rintro e w1 ⟨rfl, hb⟩
  have HB := Lib.hid hb; clear hb
  go_wp2_with (fail)
  go_ret
  exact ⟨rfl, HB.out⟩
set_option maxRecDepth 100000 in
theorem parts_15 (w : World) : Calls Tryd.prog 20 #[.int .i64 15] w (Gives (.int .i64 1) w) := by
  go_enter Tryd.func20, Tryd.ntmps20
  go_wp2_with (fail)
  refine (word_15 _).mono ?_
  rintro e w1 ⟨rfl, hb⟩
  have HB := Lib.hid hb; clear hb
  go_wp2_with (fail)
  go_ret
  exact ⟨rfl, HB.out⟩
set_option maxRecDepth 100000 in
theorem parts_16 (w : World) : Calls Tryd.prog 20 #[.int .i64 16] w (Gives (.int .i64 3) w) := by
  go_enter Tryd.func20, Tryd.ntmps20
  go_wp2_with (fail)
  refine (word_16 _).mono ?_
  rintro e w1 ⟨rfl, hb⟩
  have HB := Lib.hid hb; clear hb
  go_wp2_with (fail)
  go_ret
  exact ⟨rfl, HB.out⟩
set_option maxRecDepth 100000 in
theorem parts_17 (w : World) : Calls Tryd.prog 20 #[.int .i64 17] w (Gives (.int .i64 2) w) := by
  go_enter Tryd.func20, Tryd.ntmps20
  go_wp2_with (fail)
  refine (word_17 _).mono ?_
  rintro e w1 ⟨rfl, hb⟩
  have HB := Lib.hid hb; clear hb
  go_wp2_with (fail)
  go_ret
  exact ⟨rfl, HB.out⟩
set_option maxRecDepth 100000 in
theorem parts_18 (w : World) : Calls Tryd.prog 20 #[.int .i64 18] w (Gives (.int .i64 1) w) := by
  go_enter Tryd.func20, Tryd.ntmps20
  go_wp2_with (fail)
  refine (word_18 _).mono ?_
  rintro e w1 ⟨rfl, hb⟩
  have HB := Lib.hid hb; clear hb
  go_wp2_with (fail)
  go_ret
  exact ⟨rfl, HB.out⟩
set_option maxRecDepth 100000 in
theorem parts_19 (w : World) : Calls Tryd.prog 20 #[.int .i64 19] w (Gives (.int .i64 1) w) := by
  go_enter Tryd.func20, Tryd.ntmps20
  go_wp2_with (fail)
  refine (word_19 _).mono ?_
  rintro e w1 ⟨rfl, hb⟩
  have HB := Lib.hid hb; clear hb
  go_wp2_with (fail)
  go_ret
  exact ⟨rfl, HB.out⟩
set_option maxRecDepth 100000 in
theorem parts_20 (w : World) : Calls Tryd.prog 20 #[.int .i64 20] w (Gives (.int .i64 1) w) := by
  go_enter Tryd.func20, Tryd.ntmps20
  go_wp2_with (fail)
  refine (word_20 _).mono ?_
  rintro e w1 ⟨rfl, hb⟩
  have HB := Lib.hid hb; clear hb
  go_wp2_with (fail)
  go_ret
  exact ⟨rfl, HB.out⟩
set_option maxRecDepth 100000 in
theorem parts_21 (w : World) : Calls Tryd.prog 20 #[.int .i64 21] w (Gives (.int .i64 2) w) := by
  go_enter Tryd.func20, Tryd.ntmps20
  go_wp2_with (fail)
  refine (word_21 _).mono ?_
  rintro e w1 ⟨rfl, hb⟩
  have HB := Lib.hid hb; clear hb
  go_wp2_with (fail)
  go_ret
  exact ⟨rfl, HB.out⟩
set_option maxRecDepth 100000 in
theorem parts_22 (w : World) : Calls Tryd.prog 20 #[.int .i64 22] w (Gives (.int .i64 1) w) := by
  go_enter Tryd.func20, Tryd.ntmps20
  go_wp2_with (fail)
  refine (word_22 _).mono ?_
  rintro e w1 ⟨rfl, hb⟩
  have HB := Lib.hid hb; clear hb
  go_wp2_with (fail)
  go_ret
  exact ⟨rfl, HB.out⟩
set_option maxRecDepth 100000 in
theorem parts_23 (w : World) : Calls Tryd.prog 20 #[.int .i64 23] w (Gives (.int .i64 1) w) := by
  go_enter Tryd.func20, Tryd.ntmps20
  go_wp2_with (fail)
  refine (word_23 _).mono ?_
  rintro e w1 ⟨rfl, hb⟩
  have HB := Lib.hid hb; clear hb
  go_wp2_with (fail)
  go_ret
  exact ⟨rfl, HB.out⟩
set_option maxRecDepth 100000 in
theorem parts_24 (w : World) : Calls Tryd.prog 20 #[.int .i64 24] w (Gives (.int .i64 1) w) := by
  go_enter Tryd.func20, Tryd.ntmps20
  go_wp2_with (fail)
  refine (word_24 _).mono ?_
  rintro e w1 ⟨rfl, hb⟩
  have HB := Lib.hid hb; clear hb
  go_wp2_with (fail)
  go_ret
  exact ⟨rfl, HB.out⟩
set_option maxRecDepth 100000 in
theorem parts_25 (w : World) : Calls Tryd.prog 20 #[.int .i64 25] w (Gives (.int .i64 1) w) := by
  go_enter Tryd.func20, Tryd.ntmps20
  go_wp2_with (fail)
  refine (word_25 _).mono ?_
  rintro e w1 ⟨rfl, hb⟩
  have HB := Lib.hid hb; clear hb
  go_wp2_with (fail)
  go_ret
  exact ⟨rfl, HB.out⟩
set_option maxRecDepth 100000 in
theorem parts_26 (w : World) : Calls Tryd.prog 20 #[.int .i64 26] w (Gives (.int .i64 2) w) := by
  go_enter Tryd.func20, Tryd.ntmps20
  go_wp2_with (fail)
  refine (word_26 _).mono ?_
  rintro e w1 ⟨rfl, hb⟩
  have HB := Lib.hid hb; clear hb
  go_wp2_with (fail)
  go_ret
  exact ⟨rfl, HB.out⟩
set_option maxRecDepth 100000 in
theorem parts_27 (w : World) : Calls Tryd.prog 20 #[.int .i64 27] w (Gives (.int .i64 2) w) := by
  go_enter Tryd.func20, Tryd.ntmps20
  go_wp2_with (fail)
  refine (word_27 _).mono ?_
  rintro e w1 ⟨rfl, hb⟩
  have HB := Lib.hid hb; clear hb
  go_wp2_with (fail)
  go_ret
  exact ⟨rfl, HB.out⟩
set_option maxRecDepth 100000 in
theorem parts_28 (w : World) : Calls Tryd.prog 20 #[.int .i64 28] w (Gives (.int .i64 2) w) := by
  go_enter Tryd.func20, Tryd.ntmps20
  go_wp2_with (fail)
  refine (word_28 _).mono ?_
  rintro e w1 ⟨rfl, hb⟩
  have HB := Lib.hid hb; clear hb
  go_wp2_with (fail)
  go_ret
  exact ⟨rfl, HB.out⟩
set_option maxRecDepth 100000 in
theorem parts_29 (w : World) : Calls Tryd.prog 20 #[.int .i64 29] w (Gives (.int .i64 2) w) := by
  go_enter Tryd.func20, Tryd.ntmps20
  go_wp2_with (fail)
  refine (word_29 _).mono ?_
  rintro e w1 ⟨rfl, hb⟩
  have HB := Lib.hid hb; clear hb
  go_wp2_with (fail)
  go_ret
  exact ⟨rfl, HB.out⟩
theorem parts_out {o : Int} (h : o < 2 ∨ 29 < o) (w : World) : Calls Tryd.prog 20 #[.int .i64 o] w (Gives (.int .i64 0) w) := by
  have HW := Lib.hid (word_out h w)
  clear h
  go_enter Tryd.func20, Tryd.ntmps20
  go_wp2_with (fail)
  refine HW.out.mono ?_
  rintro e w1 ⟨rfl, hb⟩
  have HB := Lib.hid hb; clear hb
  go_wp2_with (fail)
  go_ret
  exact ⟨rfl, HB.out⟩
theorem rparts_any (o : Int) : ∀ w : World, Calls Tryd.prog 20 #[.int .i64 o] w (Gives (.int .i64 ((pa o : Nat) : Int)) w) :=
  kind_each (p := fun o => ∀ w : World, Calls Tryd.prog 20 #[.int .i64 o] w (Gives (.int .i64 ((pa o : Nat) : Int)) w)) (fun o h w => by rw [(kind_out (by omega)).2]; exact parts_out h w) parts_2 parts_3 parts_4 parts_5 parts_6 parts_7 parts_8 parts_9 parts_10 parts_11 parts_12 parts_13 parts_14 parts_15 parts_16 parts_17 parts_18 parts_19 parts_20 parts_21 parts_22 parts_23 parts_24 parts_25 parts_26 parts_27 parts_28 parts_29 o
theorem name_0 (w : World) : Calls Tryd.prog 32 #[.int .i64 0] w (Gives (.string ⟨#[107, 101, 121]⟩) w) := by
  go_enter Tryd.func32, Tryd.ntmps32
  go_wp2_with (fail)
  go_ret
  exact ⟨rfl, box1 w _⟩
theorem name_1 (w : World) : Calls Tryd.prog 32 #[.int .i64 1] w (Gives (.string ⟨#[118, 97, 108]⟩) w) := by
  go_enter Tryd.func32, Tryd.ntmps32
  go_wp2_with (fail)
  go_ret
  exact ⟨rfl, box1 w _⟩
theorem name_2 (w : World) : Calls Tryd.prog 32 #[.int .i64 2] w (Gives (.string ⟨#[97, 99, 99]⟩) w) := by
  go_enter Tryd.func32, Tryd.ntmps32
  go_wp2_with (fail)
  go_ret
  exact ⟨rfl, box1 w _⟩
theorem name_3 (w : World) : Calls Tryd.prog 32 #[.int .i64 3] w (Gives (.string ⟨#[105]⟩) w) := by
  go_enter Tryd.func32, Tryd.ntmps32
  go_wp2_with (fail)
  go_ret
  exact ⟨rfl, box1 w _⟩
theorem name_4 (w : World) : Calls Tryd.prog 32 #[.int .i64 4] w (Gives (.string ⟨#[105, 116]⟩) w) := by
  go_enter Tryd.func32, Tryd.ntmps32
  go_wp2_with (fail)
  go_ret
  exact ⟨rfl, box1 w _⟩
theorem rname_any {n : Int} (h : 0 ≤ n ∧ n < 5) (w : World) : Calls Tryd.prog 32 #[.int .i64 n] w (Gives (.string (tx (nm n))) w) := by
  by_cases e0 : n = 0
  · rw [e0]; exact name_0 w
  by_cases e1 : n = 1
  · rw [e1]; exact name_1 w
  by_cases e2 : n = 2
  · rw [e2]; exact name_2 w
  by_cases e3 : n = 3
  · rw [e3]; exact name_3 w
  by_cases e4 : n = 4
  · rw [e4]; exact name_4 w
  omega
end Go.Proofs.YtoenilppcoifpaaDoor.Ex
/-
  The document's answers for layer 7: Right, less, Order (written by gen_varef.py).
-/
namespace Go.Proofs.YtoenilppcoifpaaDoor.Va
open Go.ChangeShapes Go.WideShapes Go.ChangeAt Go.RowKit Go.Proofs.YtoenilppcoifpaaDoor.Ov Go.Proofs.YtoenilppcoifpaaDoor.Ga

theorem rspot_any (x y : Int) (w : World) : Calls Tryd.prog 56 #[.agg #[.int .i64 x, .int .i64 y]] w (Gives (.bool (rb ⟨x, y⟩)) w) := by
  have e : rb ⟨x, y⟩ = (fb x && fb y) := rfl
  rw [e]; clear e
  by_cases h1 : -16777216 ≤ x
  · by_cases h2 : x ≤ 16777216
    · by_cases h3 : -16777216 ≤ y
      · by_cases h4 : y ≤ 16777216
        · have e : (fb x && fb y) = true := by rw [fb_of h1 h2, fb_of h3 h4]; rfl
          rw [e]; clear e
          go_enter Tryd.func56, Tryd.ntmps56
          go_wp2_with (fail)
          go_ret
          exact ⟨rfl, box1 w _⟩
        · have e : (fb x && fb y) = false := by
            have e1 : fb y = false := decide_eq_false (by omega)
            rw [e1]; simp
          rw [e]; clear e
          go_enter Tryd.func56, Tryd.ntmps56
          go_wp2_with (fail)
          go_ret
          exact ⟨rfl, box1 w _⟩
      · have e : (fb x && fb y) = false := by
          have e1 : fb y = false := decide_eq_false (by omega)
          rw [e1]; simp
        rw [e]; clear e
        go_enter Tryd.func56, Tryd.ntmps56
        go_wp2_with (fail)
        go_ret
        exact ⟨rfl, box1 w _⟩
    · have e : (fb x && fb y) = false := by
        have e1 : fb x = false := decide_eq_false (by omega)
        rw [e1]; rfl
      rw [e]; clear e
      go_enter Tryd.func56, Tryd.ntmps56
      go_wp2_with (fail)
      go_ret
      exact ⟨rfl, box1 w _⟩
  · have e : (fb x && fb y) = false := by
      have e1 : fb x = false := decide_eq_false (by omega)
      rw [e1]; rfl
    rw [e]; clear e
    go_enter Tryd.func56, Tryd.ntmps56
    go_wp2_with (fail)
    go_ret
    exact ⟨rfl, box1 w _⟩
set_option maxHeartbeats 1000000 in
theorem rr0a {n x y : Int} {s : ByteArray} (w : World) (h1 : ¬ -9007199254740992 ≤ n) : Calls Tryd.prog 40 #[.agg #[.int .i64 0, .int .i64 n, .string s, .int .i64 x, .int .i64 y]] w (Gives (.bool false) w) := by
  go_enter Tryd.func40, Tryd.ntmps40
  go_wp2_with (fail)
  go_ret
  exact ⟨rfl, box1 w _⟩
set_option maxHeartbeats 1000000 in
theorem rr0b {n x y : Int} {s : ByteArray} (w : World) (h1 : -9007199254740992 ≤ n) (h2 : ¬ n ≤ 9007199254740992) : Calls Tryd.prog 40 #[.agg #[.int .i64 0, .int .i64 n, .string s, .int .i64 x, .int .i64 y]] w (Gives (.bool false) w) := by
  go_enter Tryd.func40, Tryd.ntmps40
  go_wp2_with (fail)
  go_ret
  exact ⟨rfl, box1 w _⟩
set_option maxHeartbeats 1000000 in
theorem rr0c {n x y : Int} {s : ByteArray} (w : World) (h1 : -9007199254740992 ≤ n) (h2 : n ≤ 9007199254740992) (hs : (s.toList == []) = false)  : Calls Tryd.prog 40 #[.agg #[.int .i64 0, .int .i64 n, .string s, .int .i64 x, .int .i64 y]] w (Gives (.bool false) w) := by
  go_enter Tryd.func40, Tryd.ntmps40
  go_wp2_with (fail)
  go_ret
  exact ⟨rfl, box1 w _⟩
set_option maxHeartbeats 1000000 in
theorem rr0d {n x y : Int} {s : ByteArray} (w : World) (h1 : -9007199254740992 ≤ n) (h2 : n ≤ 9007199254740992) (hs : s.toList = []) (h3 : (x == 0) = false) : Calls Tryd.prog 40 #[.agg #[.int .i64 0, .int .i64 n, .string s, .int .i64 x, .int .i64 y]] w (Gives (.bool false) w) := by
  go_enter Tryd.func40, Tryd.ntmps40
  go_wp2_with (fail)
  go_ret
  exact ⟨rfl, box1 w _⟩
set_option maxHeartbeats 1000000 in
theorem rr0e {n x y : Int} {s : ByteArray} (w : World) (h1 : -9007199254740992 ≤ n) (h2 : n ≤ 9007199254740992) (hs : s.toList = []) (h3 : x = 0) (h4 : (y == 0) = false) : Calls Tryd.prog 40 #[.agg #[.int .i64 0, .int .i64 n, .string s, .int .i64 x, .int .i64 y]] w (Gives (.bool false) w) := by
  subst h3
  go_enter Tryd.func40, Tryd.ntmps40
  go_wp2_with (fail)
  go_ret
  exact ⟨rfl, box1 w _⟩
set_option maxHeartbeats 1000000 in
theorem rr0f {n x y : Int} {s : ByteArray} (w : World) (h1 : -9007199254740992 ≤ n) (h2 : n ≤ 9007199254740992) (hs : s.toList = []) (h3 : x = 0) (h4 : y = 0) : Calls Tryd.prog 40 #[.agg #[.int .i64 0, .int .i64 n, .string s, .int .i64 x, .int .i64 y]] w (Gives (.bool true) w) := by
  subst h3; subst h4
  go_enter Tryd.func40, Tryd.ntmps40
  go_wp2_with (fail)
  go_ret
  exact ⟨rfl, box1 w _⟩
set_option maxHeartbeats 1000000 in
theorem rr1a {n x y : Int} {s : ByteArray} (w : World) (h1 : ¬ (s.size : Int) ≤ 4096) : Calls Tryd.prog 40 #[.agg #[.int .i64 1, .int .i64 n, .string s, .int .i64 x, .int .i64 y]] w (Gives (.bool false) w) := by
  go_enter Tryd.func40, Tryd.ntmps40
  go_wp2_with (fail)
  go_ret
  exact ⟨rfl, box1 w _⟩
set_option maxHeartbeats 1000000 in
theorem rr1b {n x y : Int} {s : ByteArray} (w : World) (h1 : (s.size : Int) ≤ 4096) (h2 : (n == 0) = false) : Calls Tryd.prog 40 #[.agg #[.int .i64 1, .int .i64 n, .string s, .int .i64 x, .int .i64 y]] w (Gives (.bool false) w) := by
  go_enter Tryd.func40, Tryd.ntmps40
  go_wp2_with (fail)
  go_ret
  exact ⟨rfl, box1 w _⟩
set_option maxHeartbeats 1000000 in
theorem rr1c {n x y : Int} {s : ByteArray} (w : World) (h1 : (s.size : Int) ≤ 4096) (h2 : n = 0) (h3 : (x == 0) = false) : Calls Tryd.prog 40 #[.agg #[.int .i64 1, .int .i64 n, .string s, .int .i64 x, .int .i64 y]] w (Gives (.bool false) w) := by
  subst h2
  go_enter Tryd.func40, Tryd.ntmps40
  go_wp2_with (fail)
  go_ret
  exact ⟨rfl, box1 w _⟩
set_option maxHeartbeats 1000000 in
theorem rr1d {n x y : Int} {s : ByteArray} (w : World) (h1 : (s.size : Int) ≤ 4096) (h2 : n = 0) (h3 : x = 0) (h4 : (y == 0) = false) : Calls Tryd.prog 40 #[.agg #[.int .i64 1, .int .i64 n, .string s, .int .i64 x, .int .i64 y]] w (Gives (.bool false) w) := by
  subst h2; subst h3
  go_enter Tryd.func40, Tryd.ntmps40
  go_wp2_with (fail)
  go_ret
  exact ⟨rfl, box1 w _⟩
set_option maxHeartbeats 1000000 in
theorem rr1e {n x y : Int} {s : ByteArray} (w : World) (h1 : (s.size : Int) ≤ 4096) (h2 : n = 0) (h3 : x = 0) (h4 : y = 0) : Calls Tryd.prog 40 #[.agg #[.int .i64 1, .int .i64 n, .string s, .int .i64 x, .int .i64 y]] w (Gives (.bool true) w) := by
  subst h2; subst h3; subst h4
  go_enter Tryd.func40, Tryd.ntmps40
  go_wp2_with (fail)
  go_ret
  exact ⟨rfl, box1 w _⟩
set_option maxHeartbeats 1000000 in
theorem rr2a {n x y : Int} {s : ByteArray} (w : World) (hp : rb ⟨x, y⟩ = false)  : Calls Tryd.prog 40 #[.agg #[.int .i64 2, .int .i64 n, .string s, .int .i64 x, .int .i64 y]] w (Gives (.bool false) w) := by
  have HP := Lib.hid (rspot_any x y); rw [hp] at HP; clear hp
  go_enter Tryd.func40, Tryd.ntmps40
  go_wp2_with (fail)
  have D := Blk.made w 48 (vcs 2 n s x y) rfl
  have kb := box1 w (.cells #[.int .i64 2, .int .i64 n, .string s, .int .i64 x, .int .i64 y] 48)
  change Blk (w.alloc (.cells #[.int .i64 2, .int .i64 n, .string s, .int .i64 x, .int .i64 y] 48)) w.heap.size _ at D
  generalize w.alloc (.cells #[.int .i64 2, .int .i64 n, .string s, .int .i64 x, .int .i64 y] 48) = v at *
  refine (HP.out _).mono ?_
  rintro e w1 ⟨rfl, hb⟩
  have HB := Lib.hid (Below.next kb hb)
  have D1 := D.next hb
  have d0 := D1.v0; have d1 := D1.v1; have d2 := D1.v2; have d3 := D1.v3; have d4 := D1.v4
  clear hb kb D D1
  go_wp2_with (fail)
  go_ret
  exact ⟨rfl, HB.out⟩
set_option maxHeartbeats 1000000 in
theorem rr2b {n x y : Int} {s : ByteArray} (w : World) (hp : rb ⟨x, y⟩ = true) (h2 : (n == 0) = false) : Calls Tryd.prog 40 #[.agg #[.int .i64 2, .int .i64 n, .string s, .int .i64 x, .int .i64 y]] w (Gives (.bool false) w) := by
  have HP := Lib.hid (rspot_any x y); rw [hp] at HP; clear hp
  go_enter Tryd.func40, Tryd.ntmps40
  go_wp2_with (fail)
  have D := Blk.made w 48 (vcs 2 n s x y) rfl
  have kb := box1 w (.cells #[.int .i64 2, .int .i64 n, .string s, .int .i64 x, .int .i64 y] 48)
  change Blk (w.alloc (.cells #[.int .i64 2, .int .i64 n, .string s, .int .i64 x, .int .i64 y] 48)) w.heap.size _ at D
  generalize w.alloc (.cells #[.int .i64 2, .int .i64 n, .string s, .int .i64 x, .int .i64 y] 48) = v at *
  refine (HP.out _).mono ?_
  rintro e w1 ⟨rfl, hb⟩
  have HB := Lib.hid (Below.next kb hb)
  have D1 := D.next hb
  have d0 := D1.v0; have d1 := D1.v1; have d2 := D1.v2; have d3 := D1.v3; have d4 := D1.v4
  clear hb kb D D1
  go_wp2_with (fail)
  go_ret
  exact ⟨rfl, HB.out⟩
set_option maxHeartbeats 1000000 in
theorem rr2c {n x y : Int} {s : ByteArray} (w : World) (hp : rb ⟨x, y⟩ = true) (h2 : n = 0) (hs : (s.toList == []) = false)  : Calls Tryd.prog 40 #[.agg #[.int .i64 2, .int .i64 n, .string s, .int .i64 x, .int .i64 y]] w (Gives (.bool false) w) := by
  have HP := Lib.hid (rspot_any x y); rw [hp] at HP; clear hp
  subst h2
  go_enter Tryd.func40, Tryd.ntmps40
  go_wp2_with (fail)
  have D := Blk.made w 48 (vcs 2 0 s x y) rfl
  have kb := box1 w (.cells #[.int .i64 2, .int .i64 0, .string s, .int .i64 x, .int .i64 y] 48)
  change Blk (w.alloc (.cells #[.int .i64 2, .int .i64 0, .string s, .int .i64 x, .int .i64 y] 48)) w.heap.size _ at D
  generalize w.alloc (.cells #[.int .i64 2, .int .i64 0, .string s, .int .i64 x, .int .i64 y] 48) = v at *
  refine (HP.out _).mono ?_
  rintro e w1 ⟨rfl, hb⟩
  have HB := Lib.hid (Below.next kb hb)
  have D1 := D.next hb
  have d0 := D1.v0; have d1 := D1.v1; have d2 := D1.v2; have d3 := D1.v3; have d4 := D1.v4
  clear hb kb D D1
  go_wp2_with (fail)
  go_ret
  exact ⟨rfl, HB.out⟩
set_option maxHeartbeats 1000000 in
theorem rr2d {n x y : Int} {s : ByteArray} (w : World) (hp : rb ⟨x, y⟩ = true) (h2 : n = 0) (hs : s.toList = [])  : Calls Tryd.prog 40 #[.agg #[.int .i64 2, .int .i64 n, .string s, .int .i64 x, .int .i64 y]] w (Gives (.bool true) w) := by
  have HP := Lib.hid (rspot_any x y); rw [hp] at HP; clear hp
  subst h2
  go_enter Tryd.func40, Tryd.ntmps40
  go_wp2_with (fail)
  have D := Blk.made w 48 (vcs 2 0 s x y) rfl
  have kb := box1 w (.cells #[.int .i64 2, .int .i64 0, .string s, .int .i64 x, .int .i64 y] 48)
  change Blk (w.alloc (.cells #[.int .i64 2, .int .i64 0, .string s, .int .i64 x, .int .i64 y] 48)) w.heap.size _ at D
  generalize w.alloc (.cells #[.int .i64 2, .int .i64 0, .string s, .int .i64 x, .int .i64 y] 48) = v at *
  refine (HP.out _).mono ?_
  rintro e w1 ⟨rfl, hb⟩
  have HB := Lib.hid (Below.next kb hb)
  have D1 := D.next hb
  have d0 := D1.v0; have d1 := D1.v1; have d2 := D1.v2; have d3 := D1.v3; have d4 := D1.v4
  clear hb kb D D1
  go_wp2_with (fail)
  go_ret
  exact ⟨rfl, HB.out⟩
theorem txt_nil {s : ByteArray} (h : s.data.toList = []) : s.toList = [] := by rw [ByteArray.toList_eq, h]
theorem txt_full {s : ByteArray} (h : s.data.toList ≠ []) : (s.toList == []) = false := by
  rw [ByteArray.toList_eq]; exact beq_eq_false_iff_ne.2 h
theorem rright_val (k n x y : Int) (s : ByteArray) (w : World) : Calls Tryd.prog 40 #[.agg #[.int .i64 k, .int .i64 n, .string s, .int .i64 x, .int .i64 y]] w (Gives (.bool (rt ⟨k, n, s.data.toList, x, y⟩)) w) := by
  have bq : ∀ {a : Int}, a ≠ 0 → (a == 0) = false := fun h => beq_eq_false_iff_ne.2 h
  by_cases k0 : k = 0
  · subst k0
    by_cases h1 : -9007199254740992 ≤ n
    rotate_left
    · rw [show rt ⟨0, n, s.data.toList, x, y⟩ = false by rw [rt_int, decide_eq_false h1]; simp]; exact rr0a w h1
    by_cases h2 : n ≤ 9007199254740992
    rotate_left
    · rw [show rt ⟨0, n, s.data.toList, x, y⟩ = false by rw [rt_int, decide_eq_false h2]; simp]; exact rr0b w h1 h2
    have key : rt ⟨0, n, s.data.toList, x, y⟩ = ve ⟨0, n, s.data.toList, x, y⟩ ⟨0, n, [], 0, 0⟩ := by rw [rt_int, decide_eq_true h1, decide_eq_true h2]; simp
    rw [key]
    by_cases hs : s.data.toList = []
    rotate_left
    · rw [show ve ⟨0, n, s.data.toList, x, y⟩ ⟨0, n, [], 0, 0⟩ = false from decide_eq_false (fun h => hs (congrArg Va.s h))]; exact rr0c w h1 h2 (txt_full hs)
    by_cases hx : x = 0
    rotate_left
    · rw [show ve ⟨0, n, s.data.toList, x, y⟩ ⟨0, n, [], 0, 0⟩ = false from decide_eq_false (fun h => hx (congrArg Va.x h))]; exact rr0d w h1 h2 (txt_nil hs) (bq hx)
    by_cases hy : y = 0
    rotate_left
    · rw [show ve ⟨0, n, s.data.toList, x, y⟩ ⟨0, n, [], 0, 0⟩ = false from decide_eq_false (fun h => hy (congrArg Va.y h))]; exact rr0e w h1 h2 (txt_nil hs) hx (bq hy)
    rw [show ve ⟨0, n, s.data.toList, x, y⟩ ⟨0, n, [], 0, 0⟩ = true from decide_eq_true (by rw [hs, hx, hy])]; exact rr0f w h1 h2 (txt_nil hs) hx hy
  by_cases k1 : k = 1
  · subst k1
    have hl : s.data.toList.length = s.size := by simp
    by_cases h1 : s.size ≤ 4096
    rotate_left
    · rw [show rt ⟨1, n, s.data.toList, x, y⟩ = false by rw [rt_text, hl, decide_eq_false h1]; simp]; exact rr1a w (by omega)
    have key : rt ⟨1, n, s.data.toList, x, y⟩ = ve ⟨1, n, s.data.toList, x, y⟩ ⟨1, 0, s.data.toList, 0, 0⟩ := by rw [rt_text, hl, decide_eq_true h1]; simp
    rw [key]
    by_cases hn : n = 0
    rotate_left
    · rw [show ve ⟨1, n, s.data.toList, x, y⟩ ⟨1, 0, s.data.toList, 0, 0⟩ = false from decide_eq_false (fun h => hn (congrArg Va.n h))]; exact rr1b w (by omega) (bq hn)
    by_cases hx : x = 0
    rotate_left
    · rw [show ve ⟨1, n, s.data.toList, x, y⟩ ⟨1, 0, s.data.toList, 0, 0⟩ = false from decide_eq_false (fun h => hx (congrArg Va.x h))]; exact rr1c w (by omega) hn (bq hx)
    by_cases hy : y = 0
    rotate_left
    · rw [show ve ⟨1, n, s.data.toList, x, y⟩ ⟨1, 0, s.data.toList, 0, 0⟩ = false from decide_eq_false (fun h => hy (congrArg Va.y h))]; exact rr1d w (by omega) hn hx (bq hy)
    rw [show ve ⟨1, n, s.data.toList, x, y⟩ ⟨1, 0, s.data.toList, 0, 0⟩ = true from decide_eq_true (by rw [hn, hx, hy])]; exact rr1e w (by omega) hn hx hy
  by_cases k2 : k = 2
  · subst k2
    rw [rt_point]
    rcases Bool.eq_false_or_eq_true (rb ⟨x, y⟩) with hp | hp
    rotate_left
    · rw [hp, Bool.and_false]; exact rr2a w hp
    rw [hp, Bool.and_true]
    by_cases hn : n = 0
    rotate_left
    · rw [show ve ⟨2, n, s.data.toList, x, y⟩ ⟨2, 0, [], x, y⟩ = false from decide_eq_false (fun h => hn (congrArg Va.n h))]; exact rr2b w hp (bq hn)
    by_cases hs : s.data.toList = []
    rotate_left
    · rw [show ve ⟨2, n, s.data.toList, x, y⟩ ⟨2, 0, [], x, y⟩ = false from decide_eq_false (fun h => hs (congrArg Va.s h))]; exact rr2c w hp hn (txt_full hs)
    rw [show ve ⟨2, n, s.data.toList, x, y⟩ ⟨2, 0, [], x, y⟩ = true from decide_eq_true (by rw [hn, hs])]; exact rr2d w hp hn (txt_nil hs)
  rw [rt_kind n x y _ k0 k1 k2]
  have e0 := bq k0
  have e1 : (k == 1) = false := beq_eq_false_iff_ne.2 k1
  have e2 : (k == 2) = false := beq_eq_false_iff_ne.2 k2
  clear k0 k1 k2 bq
  go_enter Tryd.func40, Tryd.ntmps40
  go_wp2_with (fail)
  go_ret
  exact ⟨rfl, box1 w _⟩
/-- Does a value come ahead of another one, by the document? -/
def ls (a b : Va) : Bool := if a.k ≠ b.k then decide (a.k < b.k) else if a.k = 0 then decide (a.n < b.n) else if a.k = 1 then Op.bytesLess a.s b.s else decide (a.x < b.x ∨ a.x = b.x ∧ a.y < b.y)
theorem less_app (t a b : List UInt8) : Op.bytesLess (t ++ a) (t ++ b) = Op.bytesLess a b := by
  induction t with
  | nil => rfl
  | cons c t ih =>
    rw [List.cons_append, List.cons_append, less_cons, ih]
    have : ¬ c < c := fun h => by rw [UInt8.lt_iff_toNat_lt] at h; omega
    simp [this]
theorem less_at {a b : List UInt8} {i : Nat} (ht : a.take i = b.take i) : Op.bytesLess a b = Op.bytesLess (a.drop i) (b.drop i) := by
  have := less_app (a.take i) (a.drop i) (b.drop i)
  rw [List.take_append_drop] at this
  rw [ht, List.take_append_drop] at this
  exact this
theorem less_ne {c d : UInt8} (x y : List UInt8) (h : c ≠ d) : Op.bytesLess (c :: x) (d :: y) = decide (c.toNat < d.toNat) := by
  rw [Bool.eq_iff_iff, less_cons_iff, decide_eq_true_eq]
  exact ⟨fun g => g.elim id (fun g => absurd g.1 h), .inl⟩
theorem ord_ls {a b : Va} (ha : rt a = true) (hb : rt b = true) : ord a b = if ls a b = true then -1 else if ls b a = true then 1 else 0 := by
  obtain ⟨k0, n0, s0, x0, y0⟩ := a
  obtain ⟨k1, n1, s1, x1, y1⟩ := b
  by_cases hk : k0 = k1
  rotate_left
  · have e1 : ls ⟨k0, n0, s0, x0, y0⟩ ⟨k1, n1, s1, x1, y1⟩ = decide (k0 < k1) := if_pos hk
    have e2 : ls ⟨k1, n1, s1, x1, y1⟩ ⟨k0, n0, s0, x0, y0⟩ = decide (k1 < k0) := if_pos (fun h => hk h.symm)
    rw [e1, e2]; unfold ord or4 cI
    simp only [decide_eq_true_eq]
    by_cases h : k0 < k1
    · rw [if_pos h]; rfl
    · rw [if_neg h, if_pos (show k1 < k0 by omega)]; rfl
  subst hk
  have ck : cI k0 k0 = 0 := (cI_cmp.zero k0 k0).2 rfl
  rcases rt_yes ha with ⟨h0, _, _, h3, h4, h5⟩ | ⟨h0, h1, _, h3, h4⟩ | ⟨h0, h1, h2, _⟩
  · dsimp only at h0 h3 h4 h5
    subst h0; subst h3; subst h4; subst h5
    obtain ⟨_, g3, g4, g5⟩ := rt_int_in hb
    subst g3; subst g4; subst g5
    have e : ∀ n m : Int, ls ⟨0, n, [], 0, 0⟩ ⟨0, m, [], 0, 0⟩ = decide (n < m) := fun n m => by unfold ls; rw [if_neg (fun h => h rfl), if_pos rfl]
    rw [e, e]; unfold ord or4
    dsimp only
    rw [ck, if_neg (fun h => h rfl)]
    simp only [decide_eq_true_eq]
    show (if cI n0 n1 ≠ 0 then cI n0 n1 else if cS [] [] ≠ 0 then cS [] [] else cP 0 0 0 0) = cI n0 n1
    rw [cS_self, show cP 0 0 0 0 = 0 by decide]
    by_cases h : cI n0 n1 = 0
    · rw [h]; rfl
    · rw [if_pos h]
  · dsimp only at h0 h1 h3 h4
    subst h0; subst h1; subst h3; subst h4
    obtain ⟨_, g2, g3, g4⟩ := rt_text_in hb
    subst g2; subst g3; subst g4
    have e : ∀ a b : List UInt8, ls ⟨1, 0, a, 0, 0⟩ ⟨1, 0, b, 0, 0⟩ = Op.bytesLess a b := fun a b => by unfold ls; rw [if_neg (fun h => h rfl)]; exact (if_neg (show ¬ (1 : Int) = 0 by decide)).trans (if_pos rfl)
    rw [e, e]; unfold ord or4
    dsimp only
    rw [ck, if_neg (fun h => h rfl), show cI 0 0 = 0 by decide, if_neg (fun h => h rfl)]
    show (if cS s0 s1 ≠ 0 then cS s0 s1 else cP 0 0 0 0) = cS s0 s1
    rw [show cP 0 0 0 0 = 0 by decide]
    by_cases h : cS s0 s1 = 0
    · rw [h]; rfl
    · rw [if_pos h]
  · dsimp only at h0 h1 h2
    subst h0; subst h1; subst h2
    obtain ⟨_, g2, g3⟩ := rt_point_in hb
    subst g2; subst g3
    have e : ∀ x y u v : Int, ls ⟨2, 0, [], x, y⟩ ⟨2, 0, [], u, v⟩ = decide (x < u ∨ x = u ∧ y < v) := fun x y u v => by unfold ls; rw [if_neg (fun h => h rfl)]; exact (if_neg (show ¬ (2 : Int) = 0 by decide)).trans (if_neg (show ¬ (2 : Int) = 1 by decide))
    rw [e, e]; unfold ord or4
    dsimp only
    rw [ck, if_neg (fun h => h rfl), show cI 0 0 = 0 by decide, if_neg (fun h => h rfl), cS_self, if_neg (fun h => h rfl)]
    unfold cP
    simp only [decide_eq_true_eq]
end Go.Proofs.YtoenilppcoifpaaDoor.Va
/-
  The document's answers for layer 8: where an expression ends, is a list right (written by gen_exref1.py).
-/
namespace Go.Proofs.YtoenilppcoifpaaDoor.Ex
open Go.ChangeShapes Go.WideShapes Go.ChangeAt Go.RowKit Go.Proofs.YtoenilppcoifpaaDoor.Ov Go.Proofs.YtoenilppcoifpaaDoor.Va

/-- What one answers. -/
def onv (n : Nat) : Option (List No) → Value
  | some r => .int .i64 ((n - r.length : Nat) : Int)
  | none => .int .i64 (-1)
theorem one_out {l : List No} {A : Option Addr} {c k wi : Nat} {w : World} (d : Nat) (hk : ¬ k < l.length) : Calls Tryd.prog 30 #[.slice A l.length c, .int .i64 (k : Int), .int .i64 (wi : Int)] w (Gives (onv l.length (ex d (l.drop k))) w) := by
  have HE : Hid (onv l.length (ex d (l.drop k)) = .int .i64 (-1)) := by
    show _ = _
    rw [List.drop_of_length_le (by omega), ex_nil]; rfl
  go_enter Tryd.func30, Tryd.ntmps30
  go_wp2_with (fail)
  go_ret
  exact ⟨by rw [HE.out]; rfl, Below.refl _ _⟩
theorem one_deep {l : List No} {A : Option Addr} {c k : Nat} {w : World} (hk : k < l.length) : Calls Tryd.prog 30 #[.slice A l.length c, .int .i64 (k : Int), .int .i64 25] w (Gives (onv l.length (ex 0 (l.drop k))) w) := by
  have HE : Hid (onv l.length (ex 0 (l.drop k)) = .int .i64 (-1)) := rfl
  go_enter Tryd.func30, Tryd.ntmps30
  go_wp2_with (fail)
  go_ret
  exact ⟨by rw [HE.out]; rfl, Below.refl _ _⟩
set_option maxRecDepth 100000 in
set_option maxHeartbeats 4000000 in
theorem one_val_yes {l : List No} {B O c k wi : Nat} {w : World} {vk vn vx vy : Int} {vs : ByteArray} (hlt : l.length ≤ 4294967296) (hv : rt ⟨vk, vn, vs.data.toList, vx, vy⟩ = true) (hk : k < l.length) (hwi : wi ≤ 24)
    (e0 : w.cell? ⟨B, O + k * 6, none⟩ = some (.int .i64 0)) (e1 : w.cell? ⟨B, O + k * 6 + 1, none⟩ = some (.int .i64 vk)) (e2 : w.cell? ⟨B, O + k * 6 + 2, none⟩ = some (.int .i64 vn)) (e3 : w.cell? ⟨B, O + k * 6 + 3, none⟩ = some (.string vs)) (e4 : w.cell? ⟨B, O + k * 6 + 4, none⟩ = some (.int .i64 vx)) (e5 : w.cell? ⟨B, O + k * 6 + 5, none⟩ = some (.int .i64 vy)) :
    Calls Tryd.prog 30 #[.slice (some ⟨B, O, none⟩) l.length c, .int .i64 (k : Int), .int .i64 (wi : Int)] w (Gives (.int .i64 ((k + 1 : Nat) : Int)) w) := by
  have hd1 : decide (l.length ≤ k) = false := decide_eq_false (by omega)
  have hd2 : decide ((24 : Int) < (wi : Int)) = false := decide_eq_false (by omega)
  have HV := Lib.hid (rright_val vk vn vx vy vs); rw [hv] at HV; clear hv

  go_enter Tryd.func30, Tryd.ntmps30
  go_wp2_with (fail)

  have kb := box1 w (.cells #[.int .i64 0, .int .i64 vk, .int .i64 vn, .string vs, .int .i64 vx, .int .i64 vy] 50)
  have D := Blk.made w 50 [.int .i64 0, .int .i64 vk, .int .i64 vn, .string vs, .int .i64 vx, .int .i64 vy] rfl
  change Blk (w.alloc (.cells #[.int .i64 0, .int .i64 vk, .int .i64 vn, .string vs, .int .i64 vx, .int .i64 vy] 50)) w.heap.size _ at D
  generalize w.alloc (.cells #[.int .i64 0, .int .i64 vk, .int .i64 vn, .string vs, .int .i64 vx, .int .i64 vy] 50) = w1 at *

  refine (HV.out _).mono ?_
  rintro e w2 ⟨rfl, hb⟩
  have HB := Lib.hid (Below.next kb hb)
  have D2 := D.next hb
  have c0 := D2.c 0 _ rfl; have c1 := D2.c 1 _ rfl; have c2 := D2.c 2 _ rfl
  clear hb kb D HV D2 e0 e1 e2 e3 e4 e5
  go_wp2_with (fail)

  go_ret
  exact ⟨ret_int (by go_num), HB.out⟩
set_option maxRecDepth 100000 in
set_option maxHeartbeats 4000000 in
theorem one_val_no {l : List No} {B O c k wi : Nat} {w : World} {vk vn vx vy : Int} {vs : ByteArray} (hv : rt ⟨vk, vn, vs.data.toList, vx, vy⟩ = false) (hk : k < l.length) (hwi : wi ≤ 24)
    (e0 : w.cell? ⟨B, O + k * 6, none⟩ = some (.int .i64 0)) (e1 : w.cell? ⟨B, O + k * 6 + 1, none⟩ = some (.int .i64 vk)) (e2 : w.cell? ⟨B, O + k * 6 + 2, none⟩ = some (.int .i64 vn)) (e3 : w.cell? ⟨B, O + k * 6 + 3, none⟩ = some (.string vs)) (e4 : w.cell? ⟨B, O + k * 6 + 4, none⟩ = some (.int .i64 vx)) (e5 : w.cell? ⟨B, O + k * 6 + 5, none⟩ = some (.int .i64 vy)) :
    Calls Tryd.prog 30 #[.slice (some ⟨B, O, none⟩) l.length c, .int .i64 (k : Int), .int .i64 (wi : Int)] w (Gives (.int .i64 (-1)) w) := by
  have hd1 : decide (l.length ≤ k) = false := decide_eq_false (by omega)
  have hd2 : decide ((24 : Int) < (wi : Int)) = false := decide_eq_false (by omega)
  have HV := Lib.hid (rright_val vk vn vx vy vs); rw [hv] at HV; clear hv

  go_enter Tryd.func30, Tryd.ntmps30
  go_wp2_with (fail)

  have kb := box1 w (.cells #[.int .i64 0, .int .i64 vk, .int .i64 vn, .string vs, .int .i64 vx, .int .i64 vy] 50)
  have D := Blk.made w 50 [.int .i64 0, .int .i64 vk, .int .i64 vn, .string vs, .int .i64 vx, .int .i64 vy] rfl
  change Blk (w.alloc (.cells #[.int .i64 0, .int .i64 vk, .int .i64 vn, .string vs, .int .i64 vx, .int .i64 vy] 50)) w.heap.size _ at D
  generalize w.alloc (.cells #[.int .i64 0, .int .i64 vk, .int .i64 vn, .string vs, .int .i64 vx, .int .i64 vy] 50) = w1 at *

  refine (HV.out _).mono ?_
  rintro e w2 ⟨rfl, hb⟩
  have HB := Lib.hid (Below.next kb hb)
  have D2 := D.next hb
  have c0 := D2.c 0 _ rfl; have c1 := D2.c 1 _ rfl; have c2 := D2.c 2 _ rfl
  clear hb kb D HV D2 e0 e1 e2 e3 e4 e5
  go_wp2_with (fail)

  refine (word_out (o := 0) (by decide) _).mono ?_
  rintro e w3 ⟨rfl, hb⟩
  have HB3 := Lib.hid (Below.next HB.out hb)
  clear hb
  go_wp2_with (fail)
  go_ret
  exact ⟨rfl, HB3.out⟩
set_option maxRecDepth 100000 in
set_option maxHeartbeats 4000000 in
theorem one_name_bad {l : List No} {B O c k wi : Nat} {w : World} {vk vn vx vy : Int} {vs : ByteArray} (hv : rt ⟨vk, vn, vs.data.toList, vx, vy⟩ = false) (hk : k < l.length) (hwi : wi ≤ 24)
    (e0 : w.cell? ⟨B, O + k * 6, none⟩ = some (.int .i64 1)) (e1 : w.cell? ⟨B, O + k * 6 + 1, none⟩ = some (.int .i64 vk)) (e2 : w.cell? ⟨B, O + k * 6 + 2, none⟩ = some (.int .i64 vn)) (e3 : w.cell? ⟨B, O + k * 6 + 3, none⟩ = some (.string vs)) (e4 : w.cell? ⟨B, O + k * 6 + 4, none⟩ = some (.int .i64 vx)) (e5 : w.cell? ⟨B, O + k * 6 + 5, none⟩ = some (.int .i64 vy)) :
    Calls Tryd.prog 30 #[.slice (some ⟨B, O, none⟩) l.length c, .int .i64 (k : Int), .int .i64 (wi : Int)] w (Gives (.int .i64 (-1)) w) := by
  have hd1 : decide (l.length ≤ k) = false := decide_eq_false (by omega)
  have hd2 : decide ((24 : Int) < (wi : Int)) = false := decide_eq_false (by omega)
  have HV := Lib.hid (rright_val vk vn vx vy vs); rw [hv] at HV; clear hv

  go_enter Tryd.func30, Tryd.ntmps30
  go_wp2_with (fail)

  have kb := box1 w (.cells #[.int .i64 1, .int .i64 vk, .int .i64 vn, .string vs, .int .i64 vx, .int .i64 vy] 50)
  have D := Blk.made w 50 [.int .i64 1, .int .i64 vk, .int .i64 vn, .string vs, .int .i64 vx, .int .i64 vy] rfl
  change Blk (w.alloc (.cells #[.int .i64 1, .int .i64 vk, .int .i64 vn, .string vs, .int .i64 vx, .int .i64 vy] 50)) w.heap.size _ at D
  generalize w.alloc (.cells #[.int .i64 1, .int .i64 vk, .int .i64 vn, .string vs, .int .i64 vx, .int .i64 vy] 50) = w1 at *

  refine (HV.out _).mono ?_
  rintro e w2 ⟨rfl, hb⟩
  have HB := Lib.hid (Below.next kb hb)
  have D2 := D.next hb
  have c0 := D2.c 0 _ rfl; have c1 := D2.c 1 _ rfl; have c2 := D2.c 2 _ rfl
  clear hb kb D HV D2 e0 e1 e2 e3 e4 e5
  go_wp2_with (fail)

  refine (word_out (o := 1) (by decide) _).mono ?_
  rintro e w3 ⟨rfl, hb⟩
  have HB3 := Lib.hid (Below.next HB.out hb)
  clear hb
  go_wp2_with (fail)
  go_ret
  exact ⟨rfl, HB3.out⟩
set_option maxRecDepth 100000 in
set_option maxHeartbeats 4000000 in
theorem one_name_kind {l : List No} {B O c k wi : Nat} {w : World} {vk vn vx vy : Int} {vs : ByteArray} (hv : rt ⟨vk, vn, vs.data.toList, vx, vy⟩ = true) (h1 : (vk == 0) = false) (hk : k < l.length) (hwi : wi ≤ 24)
    (e0 : w.cell? ⟨B, O + k * 6, none⟩ = some (.int .i64 1)) (e1 : w.cell? ⟨B, O + k * 6 + 1, none⟩ = some (.int .i64 vk)) (e2 : w.cell? ⟨B, O + k * 6 + 2, none⟩ = some (.int .i64 vn)) (e3 : w.cell? ⟨B, O + k * 6 + 3, none⟩ = some (.string vs)) (e4 : w.cell? ⟨B, O + k * 6 + 4, none⟩ = some (.int .i64 vx)) (e5 : w.cell? ⟨B, O + k * 6 + 5, none⟩ = some (.int .i64 vy)) :
    Calls Tryd.prog 30 #[.slice (some ⟨B, O, none⟩) l.length c, .int .i64 (k : Int), .int .i64 (wi : Int)] w (Gives (.int .i64 (-1)) w) := by
  have hd1 : decide (l.length ≤ k) = false := decide_eq_false (by omega)
  have hd2 : decide ((24 : Int) < (wi : Int)) = false := decide_eq_false (by omega)
  have HV := Lib.hid (rright_val vk vn vx vy vs); rw [hv] at HV; clear hv

  go_enter Tryd.func30, Tryd.ntmps30
  go_wp2_with (fail)

  have kb := box1 w (.cells #[.int .i64 1, .int .i64 vk, .int .i64 vn, .string vs, .int .i64 vx, .int .i64 vy] 50)
  have D := Blk.made w 50 [.int .i64 1, .int .i64 vk, .int .i64 vn, .string vs, .int .i64 vx, .int .i64 vy] rfl
  change Blk (w.alloc (.cells #[.int .i64 1, .int .i64 vk, .int .i64 vn, .string vs, .int .i64 vx, .int .i64 vy] 50)) w.heap.size _ at D
  generalize w.alloc (.cells #[.int .i64 1, .int .i64 vk, .int .i64 vn, .string vs, .int .i64 vx, .int .i64 vy] 50) = w1 at *

  refine (HV.out _).mono ?_
  rintro e w2 ⟨rfl, hb⟩
  have HB := Lib.hid (Below.next kb hb)
  have D2 := D.next hb
  have c0 := D2.c 0 _ rfl; have c1 := D2.c 1 _ rfl; have c2 := D2.c 2 _ rfl
  clear hb kb D HV D2 e0 e1 e2 e3 e4 e5
  go_wp2_with (fail)

  refine (word_out (o := 1) (by decide) _).mono ?_
  rintro e w3 ⟨rfl, hb⟩
  have HB3 := Lib.hid (Below.next HB.out hb)
  clear hb
  go_wp2_with (fail)
  go_ret
  exact ⟨rfl, HB3.out⟩
set_option maxRecDepth 100000 in
set_option maxHeartbeats 4000000 in
theorem one_name_low {l : List No} {B O c k wi : Nat} {w : World} {vn vx vy : Int} {vs : ByteArray} (hv : rt ⟨0, vn, vs.data.toList, vx, vy⟩ = true) (h2 : vn < 0) (hk : k < l.length) (hwi : wi ≤ 24)
    (e0 : w.cell? ⟨B, O + k * 6, none⟩ = some (.int .i64 1)) (e1 : w.cell? ⟨B, O + k * 6 + 1, none⟩ = some (.int .i64 0)) (e2 : w.cell? ⟨B, O + k * 6 + 2, none⟩ = some (.int .i64 vn)) (e3 : w.cell? ⟨B, O + k * 6 + 3, none⟩ = some (.string vs)) (e4 : w.cell? ⟨B, O + k * 6 + 4, none⟩ = some (.int .i64 vx)) (e5 : w.cell? ⟨B, O + k * 6 + 5, none⟩ = some (.int .i64 vy)) :
    Calls Tryd.prog 30 #[.slice (some ⟨B, O, none⟩) l.length c, .int .i64 (k : Int), .int .i64 (wi : Int)] w (Gives (.int .i64 (-1)) w) := by
  have hd1 : decide (l.length ≤ k) = false := decide_eq_false (by omega)
  have hd2 : decide ((24 : Int) < (wi : Int)) = false := decide_eq_false (by omega)
  have HV := Lib.hid (rright_val 0 vn vx vy vs); rw [hv] at HV; clear hv

  go_enter Tryd.func30, Tryd.ntmps30
  go_wp2_with (fail)

  have kb := box1 w (.cells #[.int .i64 1, .int .i64 0, .int .i64 vn, .string vs, .int .i64 vx, .int .i64 vy] 50)
  have D := Blk.made w 50 [.int .i64 1, .int .i64 0, .int .i64 vn, .string vs, .int .i64 vx, .int .i64 vy] rfl
  change Blk (w.alloc (.cells #[.int .i64 1, .int .i64 0, .int .i64 vn, .string vs, .int .i64 vx, .int .i64 vy] 50)) w.heap.size _ at D
  generalize w.alloc (.cells #[.int .i64 1, .int .i64 0, .int .i64 vn, .string vs, .int .i64 vx, .int .i64 vy] 50) = w1 at *

  refine (HV.out _).mono ?_
  rintro e w2 ⟨rfl, hb⟩
  have HB := Lib.hid (Below.next kb hb)
  have D2 := D.next hb
  have c0 := D2.c 0 _ rfl; have c1 := D2.c 1 _ rfl; have c2 := D2.c 2 _ rfl
  clear hb kb D HV D2 e0 e1 e2 e3 e4 e5
  go_wp2_with (fail)

  refine (word_out (o := 1) (by decide) _).mono ?_
  rintro e w3 ⟨rfl, hb⟩
  have HB3 := Lib.hid (Below.next HB.out hb)
  clear hb
  go_wp2_with (fail)
  go_ret
  exact ⟨rfl, HB3.out⟩
set_option maxRecDepth 100000 in
set_option maxHeartbeats 4000000 in
theorem one_name_high {l : List No} {B O c k wi : Nat} {w : World} {vn vx vy : Int} {vs : ByteArray} (hv : rt ⟨0, vn, vs.data.toList, vx, vy⟩ = true) (h2 : 0 ≤ vn) (h3 : 4 < vn) (hk : k < l.length) (hwi : wi ≤ 24)
    (e0 : w.cell? ⟨B, O + k * 6, none⟩ = some (.int .i64 1)) (e1 : w.cell? ⟨B, O + k * 6 + 1, none⟩ = some (.int .i64 0)) (e2 : w.cell? ⟨B, O + k * 6 + 2, none⟩ = some (.int .i64 vn)) (e3 : w.cell? ⟨B, O + k * 6 + 3, none⟩ = some (.string vs)) (e4 : w.cell? ⟨B, O + k * 6 + 4, none⟩ = some (.int .i64 vx)) (e5 : w.cell? ⟨B, O + k * 6 + 5, none⟩ = some (.int .i64 vy)) :
    Calls Tryd.prog 30 #[.slice (some ⟨B, O, none⟩) l.length c, .int .i64 (k : Int), .int .i64 (wi : Int)] w (Gives (.int .i64 (-1)) w) := by
  have hd1 : decide (l.length ≤ k) = false := decide_eq_false (by omega)
  have hd2 : decide ((24 : Int) < (wi : Int)) = false := decide_eq_false (by omega)
  have HV := Lib.hid (rright_val 0 vn vx vy vs); rw [hv] at HV; clear hv

  go_enter Tryd.func30, Tryd.ntmps30
  go_wp2_with (fail)

  have kb := box1 w (.cells #[.int .i64 1, .int .i64 0, .int .i64 vn, .string vs, .int .i64 vx, .int .i64 vy] 50)
  have D := Blk.made w 50 [.int .i64 1, .int .i64 0, .int .i64 vn, .string vs, .int .i64 vx, .int .i64 vy] rfl
  change Blk (w.alloc (.cells #[.int .i64 1, .int .i64 0, .int .i64 vn, .string vs, .int .i64 vx, .int .i64 vy] 50)) w.heap.size _ at D
  generalize w.alloc (.cells #[.int .i64 1, .int .i64 0, .int .i64 vn, .string vs, .int .i64 vx, .int .i64 vy] 50) = w1 at *

  refine (HV.out _).mono ?_
  rintro e w2 ⟨rfl, hb⟩
  have HB := Lib.hid (Below.next kb hb)
  have D2 := D.next hb
  have c0 := D2.c 0 _ rfl; have c1 := D2.c 1 _ rfl; have c2 := D2.c 2 _ rfl
  clear hb kb D HV D2 e0 e1 e2 e3 e4 e5
  go_wp2_with (fail)

  refine (word_out (o := 1) (by decide) _).mono ?_
  rintro e w3 ⟨rfl, hb⟩
  have HB3 := Lib.hid (Below.next HB.out hb)
  clear hb
  go_wp2_with (fail)
  go_ret
  exact ⟨rfl, HB3.out⟩
set_option maxRecDepth 100000 in
set_option maxHeartbeats 4000000 in
theorem one_name_yes {l : List No} {B O c k wi : Nat} {w : World} {vn vx vy : Int} {vs : ByteArray} (hlt : l.length ≤ 4294967296) (hv : rt ⟨0, vn, vs.data.toList, vx, vy⟩ = true) (h2 : 0 ≤ vn) (h3 : vn ≤ 4) (hk : k < l.length) (hwi : wi ≤ 24)
    (e0 : w.cell? ⟨B, O + k * 6, none⟩ = some (.int .i64 1)) (e1 : w.cell? ⟨B, O + k * 6 + 1, none⟩ = some (.int .i64 0)) (e2 : w.cell? ⟨B, O + k * 6 + 2, none⟩ = some (.int .i64 vn)) (e3 : w.cell? ⟨B, O + k * 6 + 3, none⟩ = some (.string vs)) (e4 : w.cell? ⟨B, O + k * 6 + 4, none⟩ = some (.int .i64 vx)) (e5 : w.cell? ⟨B, O + k * 6 + 5, none⟩ = some (.int .i64 vy)) :
    Calls Tryd.prog 30 #[.slice (some ⟨B, O, none⟩) l.length c, .int .i64 (k : Int), .int .i64 (wi : Int)] w (Gives (.int .i64 ((k + 1 : Nat) : Int)) w) := by
  have hd1 : decide (l.length ≤ k) = false := decide_eq_false (by omega)
  have hd2 : decide ((24 : Int) < (wi : Int)) = false := decide_eq_false (by omega)
  have HV := Lib.hid (rright_val 0 vn vx vy vs); rw [hv] at HV; clear hv

  go_enter Tryd.func30, Tryd.ntmps30
  go_wp2_with (fail)

  have kb := box1 w (.cells #[.int .i64 1, .int .i64 0, .int .i64 vn, .string vs, .int .i64 vx, .int .i64 vy] 50)
  have D := Blk.made w 50 [.int .i64 1, .int .i64 0, .int .i64 vn, .string vs, .int .i64 vx, .int .i64 vy] rfl
  change Blk (w.alloc (.cells #[.int .i64 1, .int .i64 0, .int .i64 vn, .string vs, .int .i64 vx, .int .i64 vy] 50)) w.heap.size _ at D
  generalize w.alloc (.cells #[.int .i64 1, .int .i64 0, .int .i64 vn, .string vs, .int .i64 vx, .int .i64 vy] 50) = w1 at *

  refine (HV.out _).mono ?_
  rintro e w2 ⟨rfl, hb⟩
  have HB := Lib.hid (Below.next kb hb)
  have D2 := D.next hb
  have c0 := D2.c 0 _ rfl; have c1 := D2.c 1 _ rfl; have c2 := D2.c 2 _ rfl
  clear hb kb D HV D2 e0 e1 e2 e3 e4 e5
  go_wp2_with (fail)

  go_ret
  exact ⟨ret_int (by go_num), HB.out⟩
set_option maxRecDepth 100000 in
set_option maxHeartbeats 4000000 in
theorem one_out_kind {l : List No} {B O c k wi : Nat} {w : World} {vk vn vx vy : Int} {vs : ByteArray} {o : Int} (ho : o < 2 ∨ 29 < o) (h0 : (o == 0) = false) (h1 : (o == 1) = false) (hk : k < l.length) (hwi : wi ≤ 24)
    (e0 : w.cell? ⟨B, O + k * 6, none⟩ = some (.int .i64 o)) (e1 : w.cell? ⟨B, O + k * 6 + 1, none⟩ = some (.int .i64 vk)) (e2 : w.cell? ⟨B, O + k * 6 + 2, none⟩ = some (.int .i64 vn)) (e3 : w.cell? ⟨B, O + k * 6 + 3, none⟩ = some (.string vs)) (e4 : w.cell? ⟨B, O + k * 6 + 4, none⟩ = some (.int .i64 vx)) (e5 : w.cell? ⟨B, O + k * 6 + 5, none⟩ = some (.int .i64 vy)) :
    Calls Tryd.prog 30 #[.slice (some ⟨B, O, none⟩) l.length c, .int .i64 (k : Int), .int .i64 (wi : Int)] w (Gives (.int .i64 (-1)) w) := by
  have hd1 : decide (l.length ≤ k) = false := decide_eq_false (by omega)
  have hd2 : decide ((24 : Int) < (wi : Int)) = false := decide_eq_false (by omega)
  have HO := Lib.hid ho; clear ho

  go_enter Tryd.func30, Tryd.ntmps30
  go_wp2_with (fail)

  have kb := box1 w (.cells #[.int .i64 o, .int .i64 vk, .int .i64 vn, .string vs, .int .i64 vx, .int .i64 vy] 50)
  have D := Blk.made w 50 [.int .i64 o, .int .i64 vk, .int .i64 vn, .string vs, .int .i64 vx, .int .i64 vy] rfl
  change Blk (w.alloc (.cells #[.int .i64 o, .int .i64 vk, .int .i64 vn, .string vs, .int .i64 vx, .int .i64 vy] 50)) w.heap.size _ at D
  generalize w.alloc (.cells #[.int .i64 o, .int .i64 vk, .int .i64 vn, .string vs, .int .i64 vx, .int .i64 vy] 50) = w1 at *

  refine (word_out HO.out _).mono ?_
  rintro e w2 ⟨rfl, hb⟩
  have HB := Lib.hid (Below.next kb hb)
  clear hb kb D e0 e1 e2 e3 e4 e5
  go_wp2_with (fail)

  go_ret
  exact ⟨rfl, HB.out⟩
set_option maxRecDepth 100000 in
set_option maxHeartbeats 4000000 in
theorem one_kind_bad {l : List No} {B O c k wi : Nat} {w : World} {vk vn vx vy : Int} {vs : ByteArray} {o : Int} (ho : 2 ≤ o ∧ o ≤ 29) (hv : ve ⟨vk, vn, vs.data.toList, vx, vy⟩ ⟨0, 0, [], 0, 0⟩ = false) (hk : k < l.length) (hwi : wi ≤ 24)
    (e0 : w.cell? ⟨B, O + k * 6, none⟩ = some (.int .i64 o)) (e1 : w.cell? ⟨B, O + k * 6 + 1, none⟩ = some (.int .i64 vk)) (e2 : w.cell? ⟨B, O + k * 6 + 2, none⟩ = some (.int .i64 vn)) (e3 : w.cell? ⟨B, O + k * 6 + 3, none⟩ = some (.string vs)) (e4 : w.cell? ⟨B, O + k * 6 + 4, none⟩ = some (.int .i64 vx)) (e5 : w.cell? ⟨B, O + k * 6 + 5, none⟩ = some (.int .i64 vy)) :
    Calls Tryd.prog 30 #[.slice (some ⟨B, O, none⟩) l.length c, .int .i64 (k : Int), .int .i64 (wi : Int)] w (Gives (.int .i64 (-1)) w) := by
  have hd1 : decide (l.length ≤ k) = false := decide_eq_false (by omega)
  have hd2 : decide ((24 : Int) < (wi : Int)) = false := decide_eq_false (by omega)
  have HWD := Lib.hid (word_any o)
  have hs1 : ((tx (wd o)).toList == []) = false := by
    rw [beq_eq_false_iff_ne, ByteArray.toList_eq, tx_list]
    have := (kind_in ho).2.1
    intro e; rw [e] at this; cases this
  have hs2 : (tx (wd o)).toList.isEmpty = false := by
    rw [← List.beq_nil_eq]; exact hs1
  generalize tx (wd o) = s at *
  have h0 : (o == 0) = false := by rw [beq_eq_false_iff_ne]; omega
  have h1 : (o == 1) = false := by rw [beq_eq_false_iff_ne]; omega

  have hE := fun w => neq_val vk vn vx vy 0 0 0 0 vs ⟨#[]⟩ w
  rw [show (⟨#[]⟩ : ByteArray).data.toList = [] from rfl, hv] at hE

  go_enter Tryd.func30, Tryd.ntmps30
  go_wp2_with (fail)

  have kb := box1 w (.cells #[.int .i64 o, .int .i64 vk, .int .i64 vn, .string vs, .int .i64 vx, .int .i64 vy] 50)
  have D := Blk.made w 50 [.int .i64 o, .int .i64 vk, .int .i64 vn, .string vs, .int .i64 vx, .int .i64 vy] rfl
  change Blk (w.alloc (.cells #[.int .i64 o, .int .i64 vk, .int .i64 vn, .string vs, .int .i64 vx, .int .i64 vy] 50)) w.heap.size _ at D
  generalize w.alloc (.cells #[.int .i64 o, .int .i64 vk, .int .i64 vn, .string vs, .int .i64 vx, .int .i64 vy] 50) = w1 at *

  refine (HWD.out _).mono ?_
  rintro e w2 ⟨rfl, hb⟩
  have HB := Lib.hid (Below.next kb hb)
  have D2 := D.next hb
  have c0 := D2.c 0 _ rfl; have c1 := D2.c 1 _ rfl; have c2 := D2.c 2 _ rfl; have c3 := D2.c 3 _ rfl; have c4 := D2.c 4 _ rfl; have c5 := D2.c 5 _ rfl
  clear hb kb D e0 e1 e2 e3 e4 e5
  go_wp2_with (fail)

  go_ret
  exact ⟨rfl, HB.out⟩
set_option maxRecDepth 100000 in
set_option maxHeartbeats 4000000 in
theorem one_any : ∀ (d : Nat) (l : List No) (A : Option Addr) (c k wi : Nat) (w : World), Nds w A l → wi + d = 25 → l.length ≤ 4294967296 → Calls Tryd.prog 30 #[.slice A l.length c, .int .i64 (k : Int), .int .i64 (wi : Int)] w (Gives (onv l.length (ex d (l.drop k))) w)
  | d, l, A, c, k, wi, w, hn, hwi, hl => by
    by_cases hk : k < l.length
    · cases d with
      | zero =>
        obtain rfl : wi = 25 := by omega
        exact one_deep hk
      | succ d =>
        have ih := one_any d
        obtain ⟨B, O, rfl⟩ := hn.shape (by omega)
        have HI : Hid (∀ (k wi : Nat) (w : World), Nds w (some ⟨B, O, none⟩) l → wi + d = 25 → Calls Tryd.prog 30 #[.slice (some ⟨B, O, none⟩) l.length c, .int .i64 (k : Int), .int .i64 (wi : Int)] w (Gives (onv l.length (ex d (l.drop k))) w)) :=
          fun k wi w h1 h2 => ih l (some ⟨B, O, none⟩) c k wi w h1 h2 hl
        clear ih
        have hw : wi ≤ 24 := by omega
        have e0 := hn.cell hk 0 _ rfl
        have e1 := hn.cell hk 1 _ rfl
        have e2 := hn.cell hk 2 _ rfl
        have e3 := hn.cell hk 3 _ rfl
        have e4 := hn.cell hk 4 _ rfl
        have e5 := hn.cell hk 5 _ rfl
        rw [Nat.add_zero] at e0
        have hx : ex (d + 1) (l.drop k) = if rn (nd l k) = true then it (ex d) (pa (nd l k).o) (l.drop (k + 1)) else none := by rw [drop_nd hk, ex_cons]
        have hleaf : rn (nd l k) = true → (nd l k).o = 0 ∨ (nd l k).o = 1 → onv l.length (ex (d + 1) (l.drop k)) = .int .i64 ((k + 1 : Nat) : Int) := fun h h0 => by
          rw [hx, if_pos h, rn_leaf h0, it_zero]
          show Value.int .i64 ((l.length - (l.drop (k + 1)).length : Nat) : Int) = _
          rw [List.length_drop, show l.length - (l.length - (k + 1)) = k + 1 by omega]
        have hbad : rn (nd l k) = false → onv l.length (ex (d + 1) (l.drop k)) = .int .i64 (-1) := fun h => by
          rw [hx, if_neg (by rw [h]; decide)]; rfl
        obtain ⟨n, hnn⟩ : ∃ n, nd l k = n := ⟨_, rfl⟩
        rw [hnn] at e0 e1 e2 e3 e4 e5 hx hleaf hbad
        clear hnn
        obtain ⟨o, vk, vn, vs, vx, vy⟩ := n
        have hvs : (tx vs).data.toList = vs := tx_list vs
        dsimp only at *
        by_cases h0 : o = 0
        · subst h0
          have hr : rn ⟨0, ⟨vk, vn, vs, vx, vy⟩⟩ = rt ⟨vk, vn, vs, vx, vy⟩ := if_pos rfl
          rcases Bool.eq_false_or_eq_true (rt ⟨vk, vn, vs, vx, vy⟩) with hv | hv
          · rw [hleaf (hr.trans hv) (.inl rfl)]
            exact one_val_yes hl (by rw [hvs]; exact hv) hk hw e0 e1 e2 e3 e4 e5
          · rw [hbad (hr.trans hv)]
            exact one_val_no (by rw [hvs]; exact hv) hk hw e0 e1 e2 e3 e4 e5
        by_cases h1 : o = 1
        · subst h1
          have hr : rn ⟨1, ⟨vk, vn, vs, vx, vy⟩⟩ = decide ((⟨vk, vn, vs, vx, vy⟩ : Va) = nv vn ∧ 0 ≤ vn ∧ vn < 5) := (if_neg (show ¬ (1 : Int) = 0 by decide)).trans (if_pos rfl)
          rcases Bool.eq_false_or_eq_true (rt ⟨vk, vn, vs, vx, vy⟩) with hv | hv
          · by_cases hk0 : vk = 0
            · subst hk0
              obtain ⟨_, hq⟩ := rt_int_in hv
              by_cases h2 : vn < 0
              · rw [hbad (hr.trans (decide_eq_false (by omega)))]
                exact one_name_low (by rw [hvs]; exact hv) h2 hk hw e0 e1 e2 e3 e4 e5
              · by_cases h3 : vn ≤ 4
                · rw [hleaf (hr.trans (decide_eq_true ⟨by unfold nv; simp only [Va.mk.injEq]; exact ⟨trivial, trivial, hq.1, hq.2.1, hq.2.2⟩, by omega, by omega⟩)) (.inr rfl)]
                  exact one_name_yes hl (by rw [hvs]; exact hv) (by omega) h3 hk hw e0 e1 e2 e3 e4 e5
                · rw [hbad (hr.trans (decide_eq_false (by omega)))]
                  exact one_name_high (by rw [hvs]; exact hv) (by omega) (by omega) hk hw e0 e1 e2 e3 e4 e5
            · rw [hbad (hr.trans (decide_eq_false (fun h => hk0 (by have := congrArg Va.k h.1; exact this))))]
              exact one_name_kind (by rw [hvs]; exact hv) (beq_eq_false_iff_ne.2 hk0) hk hw e0 e1 e2 e3 e4 e5
          · rw [hbad (hr.trans (decide_eq_false (fun h => by rw [h.1] at hv; rw [show rt (nv vn) = true from decide_eq_true (.inl ⟨rfl, by show _ ≤ vn; omega, by show vn ≤ _; omega, rfl, rfl, rfl⟩)] at hv; cases hv)))]
            exact one_name_bad (by rw [hvs]; exact hv) hk hw e0 e1 e2 e3 e4 e5
        have hr : rn ⟨o, ⟨vk, vn, vs, vx, vy⟩⟩ = decide ((2 ≤ o ∧ o ≤ 29) ∧ (⟨vk, vn, vs, vx, vy⟩ : Va) = vz) := (if_neg h0).trans (if_neg h1)
        by_cases ho : 2 ≤ o ∧ o ≤ 29
        · by_cases hv : (⟨vk, vn, vs, vx, vy⟩ : Va) = vz
          · have HE : Hid (ex (d + 1) (l.drop k) = it (ex d) (pa o) (l.drop (k + 1))) := by
              show _ = _
              rw [hx, if_pos (hr.trans (decide_eq_true ⟨ho, hv⟩))]
            clear hr hx hleaf hbad
            have HW : Hid (wi + 1 + d = 25) := by show _ = _; omega
            generalize ex (d + 1) (l.drop k) = Z at *
            have HN := Lib.hid hn
            clear hn hwi hvs
            unfold vz at hv
            obtain ⟨rfl, rfl, rfl, rfl, rfl⟩ := (Va.mk.injEq ..).mp hv
            clear hv
            rw [show tx [] = ⟨#[]⟩ from rfl] at e3
            have HWD := Lib.hid (word_any o)
            have hs1 : ((tx (wd o)).toList == []) = false := by
              rw [beq_eq_false_iff_ne, ByteArray.toList_eq, tx_list]
              have := (kind_in ho).2.1
              intro e; rw [e] at this; cases this
            have hs2 : (tx (wd o)).toList.isEmpty = false := by
              rw [← List.beq_nil_eq]; exact hs1
            generalize tx (wd o) = s at *
            have HPT := Lib.hid (rparts_any o)
            have hp3 := pa_le o
            generalize pa o = p at *
            clear h0 h1
            have h0 : (o == 0) = false := by rw [beq_eq_false_iff_ne]; omega
            have h1 : (o == 1) = false := by rw [beq_eq_false_iff_ne]; omega
            clear ho
            have hE := fun w => neq_val 0 0 0 0 0 0 0 0 ⟨#[]⟩ ⟨#[]⟩ w
            rw [show ve ⟨0, 0, (⟨#[]⟩ : ByteArray).data.toList, 0, 0⟩ ⟨0, 0, (⟨#[]⟩ : ByteArray).data.toList, 0, 0⟩ = true from decide_eq_true rfl] at hE
            have hd1 : decide (l.length ≤ k) = false := decide_eq_false (by omega)
            have hd2 : decide ((24 : Int) < (wi : Int)) = false := decide_eq_false (by omega)
            go_enter Tryd.func30, Tryd.ntmps30
            go_wp2_with (fail)

            have kb := box1 w (.cells #[.int .i64 o, .int .i64 0, .int .i64 0, .string ⟨#[]⟩, .int .i64 0, .int .i64 0] 50)
            have D := Blk.made w 50 [.int .i64 o, .int .i64 0, .int .i64 0, .string ⟨#[]⟩, .int .i64 0, .int .i64 0] rfl
            change Blk (w.alloc (.cells #[.int .i64 o, .int .i64 0, .int .i64 0, .string ⟨#[]⟩, .int .i64 0, .int .i64 0] 50)) w.heap.size _ at D
            generalize w.alloc (.cells #[.int .i64 o, .int .i64 0, .int .i64 0, .string ⟨#[]⟩, .int .i64 0, .int .i64 0] 50) = w1 at *
            refine (HWD.out _).mono ?_
            rintro e w2 ⟨rfl, hb⟩
            have HB := Lib.hid (Below.next kb hb)
            have HD := Lib.hid (D.next hb)
            have c0 := HD.out.c 0 _ rfl; have c1 := HD.out.c 1 _ rfl; have c2 := HD.out.c 2 _ rfl; have c3 := HD.out.c 3 _ rfl; have c4 := HD.out.c 4 _ rfl; have c5 := HD.out.c 5 _ rfl
            clear hb kb D e0 e1 e2 e3 e4 e5
            go_wp2_with (fail)
            clear c0 c1 c2 c3 c4 c5
            go_loopw [1, 8] (fun a i wr => ∃ y q : Nat, q ≤ p ∧ y ≤ l.length ∧ i = .int .i64 (q : Int) ∧ a = .int .i64 (y : Int) ∧ Z = it (ex d) (p - q) (l.drop y) ∧ Below w.heap.size w wr ∧ Blk wr w.heap.size [.int .i64 o, .int .i64 0, .int .i64 0, .string ⟨#[]⟩, .int .i64 0, .int .i64 0]) (fun _ i _ => p - (intOf i).toNat)
            case atStart => exact ⟨k + 1, 0, Nat.zero_le _, by omega, rfl, rfl, HE.out, HB.out, HD.out⟩
            case round =>
              obtain ⟨y, q, hq, hy, rfl, rfl, hz, hb, hd⟩ := hrel
              have c0 := hd.c 0 _ rfl
              have HB1 := Lib.hid hb
              have HD1 := Lib.hid hd
              have HZ := Lib.hid hz
              clear hb hz hd HB HD HE
              go_wp2_with (fail)
              refine (HPT.out _).mono ?_
              rintro e w4 ⟨rfl, hb⟩
              have HB4 := Lib.hid (Below.next HB1.out hb)
              have HD4 := Lib.hid (HD1.out.next hb)
              clear hb HB1 HD1 c0
              by_cases hlt : q < p
              · have HC := Lib.hid (HI.out y (wi + 1) w4 (HN.out.next HB4.out) HW.out)
                have HZ1 : Hid (Z = (ex d (l.drop y)).bind (it (ex d) (p - (q + 1)))) := by
                  show _ = _
                  rw [HZ.out, show p - q = (p - (q + 1)) + 1 by omega, it_succ]
                clear HZ
                obtain ⟨x, hx⟩ : ∃ x, ex d (l.drop y) = x := ⟨_, rfl⟩
                rw [hx] at HC HZ1
                have HX := Lib.hid hx
                clear hx
                cases x with
                | none =>
                  have HEE : Hid (onv l.length Z = .int .i64 (-1)) := by show _ = _; rw [HZ1.out]; rfl
                  clear HZ1
                  unfold onv at HC
                  go_wp2_with (fail)
                  refine HC.out.mono ?_
                  rintro e w5 ⟨rfl, hb⟩
                  have HB5 := Lib.hid (Below.next HB4.out hb)
                  clear hb
                  go_wp2_with (fail)
                  go_ret
                  exact ⟨by rw [HEE.out]; rfl, HB5.out⟩
                | some r =>
                  obtain ⟨g1, g2, g3⟩ := ex_drop_len HX.out hy
                  obtain ⟨v, hv⟩ : ∃ v, l.length - r.length = v := ⟨_, rfl⟩
                  rw [hv] at g1 g2
                  have HZ2 : Hid (Z = it (ex d) (p - (q + 1)) (l.drop v)) := by show _ = _; rw [HZ1.out, ← g1]; rfl
                  unfold onv at HC
                  dsimp only at HC
                  rw [hv] at HC
                  have hv2 : v ≤ l.length := by omega
                  clear HZ1 g1 hv HX
                  go_wp2_with (fail)
                  refine HC.out.mono ?_
                  rintro e w5 ⟨rfl, hb⟩
                  have HB5 := Lib.hid (Below.next HB4.out hb)
                  have HD5 := Lib.hid (HD4.out.next hb)
                  clear hb
                  go_wp2_with (fail)
                  go_roundw
                  case rel => exact ⟨v, q + 1, by omega, hv2, by go_num, rfl, HZ2.out, HB5.out, HD5.out⟩
                  case measure => simp [intOf]; omega
              · have HEE : Hid (onv l.length Z = .int .i64 (y : Int)) := by
                  show _ = _
                  rw [HZ.out, show p - q = 0 by omega, it_zero]
                  show Value.int .i64 ((l.length - (l.drop y).length : Nat) : Int) = _
                  rw [List.length_drop, show l.length - (l.length - y) = y by omega]
                clear HZ
                go_wp2_with (fail)
                go_ret
                exact ⟨by rw [HEE.out]; rfl, HB4.out⟩
          · rw [hbad (hr.trans (decide_eq_false (fun h => hv h.2)))]
            exact one_kind_bad ho (decide_eq_false (by rw [hvs]; exact hv)) hk hw e0 e1 e2 e3 e4 e5
        · rw [hbad (hr.trans (decide_eq_false (fun h => ho h.1)))]
          exact one_out_kind (by omega) (beq_eq_false_iff_ne.2 h0) (beq_eq_false_iff_ne.2 h1) hk hw e0 e1 e2 e3 e4 e5
    · exact one_out d hk
end Go.Proofs.YtoenilppcoifpaaDoor.Ex
/-
  Of any seat with []byte: a text of one byte.
-/
namespace Go.Proofs.YtoenilppcoifpaaDoor.Tp
open Go.ChangeShapes Go.WideShapes Go.ChangeAt Go.RowKit Go.Proofs.YtoenilppcoifpaaDoor.Ov

theorem one_text (q : World) (g : Nat) (x : Nat) (hx : x < 256) (h : q.cell? ⟨g, 0, none⟩ = some (.int .u8 (x : Int))) :
    (convert 56 9 (.slice (some ⟨g, 0, none⟩) 1 1)).run Tryd.prog q = .ok (.string (tx [UInt8.ofNat x])) q :=
  run_text rfl fun j hj => by
    have : j = 0 := by simp at hj; omega
    subst this
    rw [Nat.zero_add, h]
    show some (Value.int .u8 (x : Int)) = some (Value.int .u8 (((UInt8.ofNat x).toNat : Nat) : Int))
    rw [u8_nat hx]
end Go.Proofs.YtoenilppcoifpaaDoor.Tp
/-
  The document's answers for layer 7: Dec, hex, plain, Bytes, Write (written by gen_varef2.py).
-/
namespace Go.Proofs.YtoenilppcoifpaaDoor.Va
open Go.ChangeShapes Go.WideShapes Go.ChangeAt Go.RowKit Go.Proofs.YtoenilppcoifpaaDoor.Ov Go.Proofs.YtoenilppcoifpaaDoor.Ga Go.Proofs.YtoenilppcoifpaaDoor.Tp

theorem rplain_any (c : UInt8) (w : World) : Calls Tryd.prog 42 #[.int .u8 (c.toNat : Int)] w fun e w' => e = .returned (.bool (pl c)) ∧ w = w' := by
  obtain ⟨m, hm⟩ : ∃ m : Nat, m = c.toNat := ⟨_, rfl⟩
  have he : pl c = decide (32 ≤ m ∧ m ≤ 126 ∧ m ≠ 34 ∧ m ≠ 92) := by rw [hm]; rfl
  have hlt := c.toNat_lt
  rw [he, ← hm]
  rw [← hm] at hlt
  clear he hm
  by_cases h1 : 32 ≤ m
  · by_cases h2 : m ≤ 126
    · by_cases h3 : m = 34
      · subst h3
        go_enter Tryd.func42, Tryd.ntmps42
        go_wp2_with (fail)
        go_ret
        exact ⟨rfl, rfl⟩
      · have n3 : ((m : Int) != 34) = true := by rw [bne_iff_ne]; omega
        by_cases h4 : m = 92
        · subst h4
          go_enter Tryd.func42, Tryd.ntmps42
          go_wp2_with (fail)
          go_ret
          exact ⟨rfl, rfl⟩
        · have n4 : ((m : Int) != 92) = true := by rw [bne_iff_ne]; omega
          have he : decide (32 ≤ m ∧ m ≤ 126 ∧ m ≠ 34 ∧ m ≠ 92) = true := decide_eq_true ⟨h1, h2, h3, h4⟩
          rw [he]; clear he h3 h4
          go_enter Tryd.func42, Tryd.ntmps42
          go_wp2_with (fail)
          go_ret
          exact ⟨rfl, rfl⟩
    · have he : decide (32 ≤ m ∧ m ≤ 126 ∧ m ≠ 34 ∧ m ≠ 92) = false := decide_eq_false (by omega)
      rw [he]; clear he
      go_enter Tryd.func42, Tryd.ntmps42
      go_wp2_with (fail)
      go_ret
      exact ⟨rfl, rfl⟩
  · have he : decide (32 ≤ m ∧ m ≤ 126 ∧ m ≠ 34 ∧ m ≠ 92) = false := decide_eq_false (by omega)
    rw [he]; clear he
    go_enter Tryd.func42, Tryd.ntmps42
    go_wp2_with (fail)
    go_ret
    exact ⟨rfl, rfl⟩
set_option maxRecDepth 100000 in
theorem rhex_any (n : Nat) (w : World) (hn : n < 16) : Calls Tryd.prog 43 #[.int .i64 (n : Int)] w (Gives (.string (tx [hx n])) w) := by
  by_cases h : n < 10
  · have HE : Hid (tx [UInt8.ofNat (48 + n)] = tx [hx n]) := by show _ = _; unfold hx; rw [if_pos h]
    have hcv := one_text (w.alloc (.cells #[.int .u8 (48 + (n : Int))] 5)) w.heap.size (48 + n) (by omega) (by simp)
    obtain ⟨c, hc⟩ : ∃ c, UInt8.ofNat (48 + n) = c := ⟨_, rfl⟩
    rw [hc] at hcv HE; clear hc
    go_enter Tryd.func43, Tryd.ntmps43
    go_wp2_with (fail)
    go_ret
    exact ⟨ret_str HE.out, box1 w _⟩
  · have HE : Hid (tx [UInt8.ofNat (87 + n)] = tx [hx n]) := by show _ = _; unfold hx; rw [if_neg h]
    have hcv := one_text (w.alloc (.cells #[.int .u8 (97 + (n : Int) - 10)] 5)) w.heap.size (87 + n) (by omega) (by simp; omega)
    obtain ⟨c, hc⟩ : ∃ c, UInt8.ofNat (87 + n) = c := ⟨_, rfl⟩
    rw [hc] at hcv HE; clear hc
    go_enter Tryd.func43, Tryd.ntmps43
    go_wp2_with (fail)
    go_ret
    exact ⟨ret_str HE.out, box1 w _⟩
set_option maxRecDepth 100000 in
theorem rdec_small (n : Nat) (w : World) (hn : n < 10) : Calls Tryd.prog 41 #[.int .i64 (n : Int)] w (Gives (.string (tx (Lib.decDigits n))) w) := by
  have HE : Hid (tx [UInt8.ofNat (48 + n)] = tx (Lib.decDigits n)) := by show _ = _; rw [dec_small hn]
  have hcv := one_text (w.alloc (.cells #[.int .u8 (48 + (n : Int))] 5)) w.heap.size (48 + n) (by omega) (by simp)
  obtain ⟨c, hc⟩ : ∃ c, UInt8.ofNat (48 + n) = c := ⟨_, rfl⟩
  rw [hc] at hcv HE; clear hc
  go_enter Tryd.func41, Tryd.ntmps41
  go_wp2_with (fail)
  go_ret
  exact ⟨ret_str HE.out, box1 w _⟩
theorem dec_le (n : Nat) (h : n ≤ 9007199254740992) : (tx (Lib.decDigits n)).size ≤ 21 := by
  have h1 := Lib.itoa_length_le (n : Int) (by omega) (by omega)
  have e : Lib.itoa (n : Int) = Lib.decDigits n := by unfold Lib.itoa; rw [if_neg (by omega)]; rfl
  rw [tx_size, ← e]; exact h1
set_option maxRecDepth 100000 in
set_option maxHeartbeats 1000000 in
theorem rdec_nat (n : Nat) : ∀ (w : World), n ≤ 9007199254740992 → Calls Tryd.prog 41 #[.int .i64 (n : Int)] w (Gives (.string (tx (Lib.decDigits n))) w) := by
  induction n using Nat.strongRecOn with
  | _ n ih =>
    intro w hn
    by_cases hlt : n < 10
    · exact rdec_small n w hlt
    have HA : Hid (∀ w, Calls Tryd.prog 41 #[.int .i64 ((n : Int) / 10)] w (Gives (.string (tx (Lib.decDigits (n / 10)))) w)) := fun w => by
      have h := ih (n / 10) (by omega) w (by omega)
      rwa [show ((n / 10 : Nat) : Int) = (n : Int) / 10 by omega] at h
    have HC : Hid (∀ w, Calls Tryd.prog 41 #[.int .i64 ((n : Int) % 10)] w (Gives (.string (tx (Lib.decDigits (n % 10)))) w)) := fun w => by
      have h := rdec_small (n % 10) w (by omega)
      rwa [show ((n % 10 : Nat) : Int) = (n : Int) % 10 by omega] at h
    have HE : Hid (tx (Lib.decDigits (n / 10)) ++ tx (Lib.decDigits (n % 10)) = tx (Lib.decDigits n)) := by
      show _ = _
      rw [tx_append, dec_big hlt, dec_small (m := n % 10) (by omega)]
    have z1 := dec_le (n / 10) (by omega)
    have z2 := dec_le (n % 10) (by omega)
    generalize tx (Lib.decDigits (n / 10)) = a at *
    generalize tx (Lib.decDigits (n % 10)) = b at *
    have g1 : ¬ a.size + b.size > 9223372036854775807 := by omega
    have l1 : ¬ (n : Int) < 0 := by omega
    have l2 : ¬ (n : Int) < 10 := by omega
    have l3 : (0 : Int) ≤ (n : Int) := by omega
    have l4 : (n : Int) ≤ 9007199254740992 := by omega
    clear z1 z2 ih hlt hn
    generalize (n : Int) = m at *
    go_enter Tryd.func41, Tryd.ntmps41
    go_wp2_with (fail)
    refine (HA.out _).mono ?_
    rintro e w1 ⟨rfl, hb⟩
    have HB := Lib.hid hb; clear hb
    go_wp2_with (fail)
    refine (HC.out _).mono ?_
    rintro e w2 ⟨rfl, hb⟩
    have HB2 := Lib.hid (Below.next HB.out hb); clear hb
    go_wp2_with (fail)
    go_ret
    exact ⟨ret_str HE.out, HB2.out⟩
set_option maxHeartbeats 1000000 in
theorem rdec_any (n : Int) (w : World) (h : -9007199254740992 ≤ n ∧ n ≤ 9007199254740992) : Calls Tryd.prog 41 #[.int .i64 n] w (Gives (.string (tx (Lib.itoa n))) w) := by
  obtain ⟨h1, h2⟩ := h
  by_cases h0 : n < 0
  · have HA : Hid (∀ w, Calls Tryd.prog 41 #[.int .i64 (-n)] w (Gives (.string (tx (Lib.decDigits n.natAbs))) w)) := fun w => by
      have h := rdec_nat n.natAbs w (by omega)
      rwa [show ((n.natAbs : Nat) : Int) = -n by omega] at h
    have HE : Hid (⟨#[45]⟩ ++ tx (Lib.decDigits n.natAbs) = tx (Lib.itoa n)) := by
      show _ = _
      unfold Lib.itoa; rw [if_pos h0, show (⟨#[45]⟩ : ByteArray) = tx [45] from rfl, tx_append]; rfl
    have z := dec_le n.natAbs (by omega)
    generalize tx (Lib.decDigits n.natAbs) = a at *
    have g1 : ¬ 1 + a.size > 9223372036854775807 := by omega
    clear z
    go_enter Tryd.func41, Tryd.ntmps41
    go_wp2_with (fail)
    refine (HA.out _).mono ?_
    rintro e w1 ⟨rfl, hb⟩
    have HB := Lib.hid hb; clear hb
    go_wp2_with (fail)
    go_ret
    exact ⟨ret_str HE.out, HB.out⟩
  · have h := rdec_nat n.toNat w (by omega)
    rw [show ((n.toNat : Nat) : Int) = n by omega] at h
    have e : Lib.itoa n = Lib.decDigits n.toNat := by unfold Lib.itoa; rw [if_neg h0]
    rw [e]; exact h
end Go.Proofs.YtoenilppcoifpaaDoor.Va
/-
  The document's answer for layer 7: Write (written by gen_varef3.py).
-/
namespace Go.Proofs.YtoenilppcoifpaaDoor.Va
open Go.ChangeShapes Go.WideShapes Go.ChangeAt Go.RowKit Go.Proofs.YtoenilppcoifpaaDoor.Ov Go.Proofs.YtoenilppcoifpaaDoor.Ga Go.Proofs.YtoenilppcoifpaaDoor.Tp

set_option maxRecDepth 100000 in
set_option maxHeartbeats 2000000 in
theorem rwrite_int {n x y : Int} {s : ByteArray} (h : rt ⟨0, n, s.data.toList, x, y⟩ = true) (w : World) : Calls Tryd.prog 31 #[.agg #[.int .i64 0, .int .i64 n, .string s, .int .i64 x, .int .i64 y]] w (Gives (.string (tx (wr ⟨0, n, s.data.toList, x, y⟩))) w) := by
  have hr := (rt_int_in h).1
  clear h
  have HK := Lib.hid (fun w => rdec_any n w hr)
  rw [wr_int]
  generalize tx (Lib.itoa n) = t at *
  clear hr
  go_enter Tryd.func31, Tryd.ntmps31
  go_wp2_with (fail)
  have kb := Lib.hid (box1 w (.cells #[.int .i64 0, .int .i64 n, .string s, .int .i64 x, .int .i64 y] 48))
  have D := Blk.made w 48 (vcs 0 n s x y) rfl
  change Blk (w.alloc (.cells #[.int .i64 0, .int .i64 n, .string s, .int .i64 x, .int .i64 y] 48)) w.heap.size _ at D
  have DH := Lib.hid D; clear D
  generalize w.alloc (.cells #[.int .i64 0, .int .i64 n, .string s, .int .i64 x, .int .i64 y] 48) = v at *
  refine (HK.out _).mono ?_
  rintro e w1 ⟨rfl, hb⟩
  have HB := Lib.hid (Below.next kb.out hb)
  clear hb
  go_wp2_with (fail)
  go_ret
  exact ⟨rfl, HB.out⟩
set_option maxRecDepth 100000 in
set_option maxHeartbeats 2000000 in
theorem rwrite_point {n x y : Int} {s : ByteArray} (h : rt ⟨2, n, s.data.toList, x, y⟩ = true) (w : World) : Calls Tryd.prog 31 #[.agg #[.int .i64 2, .int .i64 n, .string s, .int .i64 x, .int .i64 y]] w (Gives (.string (tx (wr ⟨2, n, s.data.toList, x, y⟩))) w) := by
  have hr := (rt_point_in h).1
  clear h
  have HA := Lib.hid (fun w => rdec_any x w (by omega))
  have HC := Lib.hid (fun w => rdec_any y w (by omega))
  have z2 := itoa_le x (by omega)
  have z3 := itoa_le y (by omega)
  have HE : Hid (tx (Lib.itoa x) ++ ⟨#[58]⟩ ++ tx (Lib.itoa y) = tx (wr ⟨2, n, s.data.toList, x, y⟩)) := by
    show _ = _
    rw [wr_point, show (⟨#[58]⟩ : ByteArray) = tx [58] from rfl, tx_append, tx_append]
  generalize tx (Lib.itoa x) = a at *
  generalize tx (Lib.itoa y) = b at *
  have g1 : ¬ a.size + 1 > 9223372036854775807 := by omega
  have g2 : ¬ a.size + 1 + b.size > 9223372036854775807 := by omega
  clear z2 z3 hr
  go_enter Tryd.func31, Tryd.ntmps31
  go_wp2_with (fail)
  have kb := Lib.hid (box1 w (.cells #[.int .i64 2, .int .i64 n, .string s, .int .i64 x, .int .i64 y] 48))
  have D := Blk.made w 48 (vcs 2 n s x y) rfl
  change Blk (w.alloc (.cells #[.int .i64 2, .int .i64 n, .string s, .int .i64 x, .int .i64 y] 48)) w.heap.size _ at D
  have DH := Lib.hid D; clear D
  generalize w.alloc (.cells #[.int .i64 2, .int .i64 n, .string s, .int .i64 x, .int .i64 y] 48) = v at *
  have k3 := fun r : Over v => (DH.out.over r).v3
  have k4 := fun r : Over v => (DH.out.over r).v4
  refine wp_over (by kernel_rfl) (by kernel_rfl) ?_
  repeat (go_big_quiet_step (first | fail | with_reducible exact over_gives _ (HA.out _) | with_reducible exact over_gives _ (HC.out _)))
  refine wpQuiet_nil ?_
  rintro w3 ⟨⟨w3, hb⟩, rfl⟩
  have HB3 := Lib.hid (Below.next kb.out hb)
  clear hb k3 k4
  go_wp2_with (fail)
  go_ret
  exact ⟨ret_str HE.out, HB3.out⟩
theorem ext_one {s : ByteArray} {k : Nat} (h : k < s.size) : (s.extract k (k + 1)).data.toList = [s[k]] := by
  have hl : k < s.data.toList.length := by simpa using h
  rw [Lib.extract_data, List.drop_eq_getElem_cons hl, show k + 1 - k = 1 by omega]; rfl
set_option maxRecDepth 100000 in
set_option maxHeartbeats 2000000 in
theorem rwrite_text {n x y : Int} {s : ByteArray} (h : rt ⟨1, n, s.data.toList, x, y⟩ = true) (w : World) : Calls Tryd.prog 31 #[.agg #[.int .i64 1, .int .i64 n, .string s, .int .i64 x, .int .i64 y]] w (Gives (.string (tx (wr ⟨1, n, s.data.toList, x, y⟩))) w) := by
  have hs : s.size ≤ 4096 := by
    have := (rt_text_in h).1
    simpa using this
  clear h
  rw [wr_text]
  go_enter Tryd.func31, Tryd.ntmps31
  go_wp2_with (fail)
  have kb := Lib.hid (box1 w (.cells #[.int .i64 1, .int .i64 n, .string s, .int .i64 x, .int .i64 y] 48))
  have D := Blk.made w 48 (vcs 1 n s x y) rfl
  change Blk (w.alloc (.cells #[.int .i64 1, .int .i64 n, .string s, .int .i64 x, .int .i64 y] 48)) w.heap.size _ at D
  have DH := Lib.hid D; clear D
  generalize w.alloc (.cells #[.int .i64 1, .int .i64 n, .string s, .int .i64 x, .int .i64 y] 48) = v at *
  go_wp2_with (fail)
  go_loopw [3, 4] (fun u i wr => ∃ k : Nat, k ≤ s.size ∧ i = .int .i64 (k : Int) ∧ u = .string (tx (34 :: esc (s.data.toList.take k))) ∧ Below v.heap.size v wr) (fun _ i _ => s.size - (intOf i).toNat)
  case atStart => exact ⟨0, Nat.zero_le _, rfl, rfl, Below.refl _ _⟩
  case round =>
    obtain ⟨k, hk, rfl, rfl, hb⟩ := hrel
    have HB := Lib.hid hb
    have D1 := DH.out.next hb
    have d2 := D1.v2
    have D1H := Lib.hid D1
    clear hb D1
    have zu : (tx (34 :: esc (s.data.toList.take k))).size ≤ 12290 := by
      rw [tx_size, List.length_cons]
      have h1 := esc_le (s.data.toList.take k)
      have h2 : (s.data.toList.take k).length ≤ k := List.length_take_le _ _
      omega
    by_cases hlt : k < s.size
    · have HS := Lib.hid (esc_take s k hlt)
      have HX := Lib.hid (ext_one hlt)
      obtain ⟨c, hc⟩ : ∃ c : UInt8, s[k] = c := ⟨_, rfl⟩
      rw [hc] at HS HX
      have HP := Lib.hid (rplain_any c)
      have hcl := c.toNat_lt
      by_cases hp : pl c = true
      · have HE : Hid (tx (34 :: esc (s.data.toList.take k)) ++ s.extract k (k + 1) = tx (34 :: esc (s.data.toList.take (k + 1)))) := by
          show _ = _
          rw [HS.out, tx_ext HX.out, tx_append, show e1 c = [c] from if_pos hp]; rfl
        have hz : (s.extract k (k + 1)).size = 1 := by
          rw [ByteArray.size_extract]; omega
        have hsl : ∀ w, (Instr.slice 9 (.string s) (some (.int .i64 (k : Int))) (some (.int .i64 ((k : Int) + 1))) none).run Tryd.prog w = .ok (.string (s.extract k (k + 1))) w := fun w =>
          run_slice_string (P := Tryd.prog) w 9 s .i64 .i64 (k : Int) ((k : Int) + 1) Tryd.underlying9 (by omega) (by omega) (by omega)
        rw [hp] at HP; clear hp HS HX
        generalize tx (34 :: esc (s.data.toList.take k)) = u at *
        generalize s.extract k (k + 1) = t at *
        have g1 : ¬ u.size + t.size > 9223372036854775807 := by omega
        clear hz
        go_wp2_with (fail)
        refine (HP.out _).mono ?_
        rintro e w' ⟨rfl, rfl⟩
        go_wp2_with (fail)
        go_roundw
        case rel => exact ⟨k + 1, by omega, by go_num, by rw [← HE.out], HB.out⟩
        case measure => simp [intOf]; omega
      · have hp' : pl c = false := by simpa using hp
        have HE : Hid (tx (34 :: esc (s.data.toList.take k)) ++ ⟨#[92]⟩ ++ tx [hx (c.toNat / 16)] ++ tx [hx (c.toNat % 16)] = tx (34 :: esc (s.data.toList.take (k + 1)))) := by
          show _ = _
          rw [HS.out, show (⟨#[92]⟩ : ByteArray) = tx [92] from rfl, tx_append, tx_append, tx_append, show e1 c = [92, hx (c.toNat / 16), hx (c.toNat % 16)] from if_neg hp]; simp
        have HA : Hid (∀ w, Calls Tryd.prog 43 #[.int .i64 ((c.toNat : Int) / 16)] w (Gives (.string (tx [hx (c.toNat / 16)])) w)) := fun w => rhex_any (c.toNat / 16) w (by omega)
        have HC : Hid (∀ w, Calls Tryd.prog 43 #[.int .i64 ((c.toNat : Int) % 16)] w (Gives (.string (tx [hx (c.toNat % 16)])) w)) := fun w => rhex_any (c.toNat % 16) w (by omega)
        have za : (tx [hx (c.toNat / 16)]).size = 1 := tx_size _
        have zb : (tx [hx (c.toNat % 16)]).size = 1 := tx_size _
        rw [hp'] at HP; clear hp hp' HS HX
        generalize tx (34 :: esc (s.data.toList.take k)) = u at *
        generalize tx [hx (c.toNat / 16)] = a at *
        generalize tx [hx (c.toNat % 16)] = b at *
        have g1 : ¬ u.size + 1 > 9223372036854775807 := by omega
        have g2 : ¬ u.size + 1 + a.size > 9223372036854775807 := by omega
        have g3 : ¬ u.size + 1 + a.size + b.size > 9223372036854775807 := by omega
        clear za zb zu
        go_wp2_with (fail)
        refine (HP.out _).mono ?_
        rintro e w' ⟨rfl, rfl⟩
        go_wp2_with (fail)
        have k2 := fun r : Over wr => (D1H.out.over r).v2
        refine wp_over (by kernel_rfl) (by kernel_rfl) ?_
        repeat (go_big_quiet_step (first | fail | with_reducible exact over_gives _ (HA.out _) | with_reducible exact over_gives _ (HC.out _)))
        refine wpQuiet_nil ?_
        rintro w3 ⟨⟨w3, hb⟩, rfl⟩
        have HB3 := Lib.hid (Below.next HB.out hb)
        clear hb k2
        go_wp2_with (fail)
        go_roundw
        case rel => exact ⟨k + 1, by omega, by go_num, by rw [← HE.out], HB3.out⟩
        case measure => simp [intOf]; omega
    · have HE : Hid (tx (34 :: esc (s.data.toList.take k)) ++ ⟨#[34]⟩ = tx (34 :: (esc s.data.toList ++ [34]))) := by
        show _ = _
        rw [show (⟨#[34]⟩ : ByteArray) = tx [34] from rfl, tx_append, List.take_of_length_le (by simp; omega)]; rfl
      generalize tx (34 :: esc (s.data.toList.take k)) = u at *
      have g1 : ¬ u.size + 1 > 9223372036854775807 := by omega
      clear zu
      go_wp2_with (fail)
      go_ret
      exact ⟨ret_str HE.out, Below.next kb.out HB.out⟩
theorem rwrite_yes {k n x y : Int} {s : ByteArray} (h : rt ⟨k, n, s.data.toList, x, y⟩ = true) (w : World) : Calls Tryd.prog 31 #[.agg #[.int .i64 k, .int .i64 n, .string s, .int .i64 x, .int .i64 y]] w (Gives (.string (tx (wr ⟨k, n, s.data.toList, x, y⟩))) w) := by
  by_cases h0 : k = 0
  · subst h0; exact rwrite_int h w
  by_cases h1 : k = 1
  · subst h1; exact rwrite_text h w
  by_cases h2 : k = 2
  · subst h2; exact rwrite_point h w
  rw [rt_kind n x y _ h0 h1 h2] at h; cases h
end Go.Proofs.YtoenilppcoifpaaDoor.Va
/-
  The document's answers for layer 8: Right, End, Write (written by gen_exref2.py).
-/
namespace Go.Proofs.YtoenilppcoifpaaDoor.Ex
open Go.ChangeShapes Go.WideShapes Go.ChangeAt Go.RowKit Go.Proofs.YtoenilppcoifpaaDoor.Ov Go.Proofs.YtoenilppcoifpaaDoor.Va

set_option maxRecDepth 100000 in
theorem xright_any (l : List No) (A : Option Addr) (c : Nat) (w : World) (hn : Nds w A l) (hl : l.length ≤ 4294967296) : Calls Tryd.prog 15 #[.slice A l.length c] w (Gives (.bool (Rt l)) w) := by
  rw [Rt_val]
  by_cases h4 : l.length ≤ 400
  · rw [decide_eq_true h4, Bool.true_and]
    have HC := Lib.hid (one_any 25 l A c 0 0 w hn rfl hl)
    rw [List.drop_zero] at HC
    clear hn
    obtain ⟨x, hx⟩ : ∃ x, ex 25 l = x := ⟨_, rfl⟩
    rw [hx] at HC ⊢
    have HX := Lib.hid hx; clear hx
    cases x with
    | none =>
      rw [decide_eq_false (show ¬ (none : Option (List No)) = some [] by simp)]
      unfold onv at HC
      have g : ((-1 : Int) == (l.length : Int)) = false := by rw [beq_eq_false_iff_ne]; omega
      go_enter Tryd.func15, Tryd.ntmps15
      go_wp2_with (fail)
      refine HC.out.mono ?_
      rintro e w1 ⟨rfl, hb⟩
      have HB := Lib.hid hb; clear hb
      go_wp2_with (fail)
      go_ret
      exact ⟨rfl, HB.out⟩
    | some r =>
      have hr := (ex_len HX.out).1
      unfold onv at HC
      dsimp only at HC
      obtain ⟨v, hv⟩ : ∃ v, l.length - r.length = v := ⟨_, rfl⟩
      rw [hv] at HC
      have HE : decide (some r = some ([] : List No)) = ((v : Int) == (l.length : Int)) := by
        rw [Bool.eq_iff_iff]
        simp only [decide_eq_true_eq, beq_iff_eq, Option.some.injEq]
        constructor
        · rintro rfl; rw [List.length_nil] at hv; omega
        · intro h; exact List.eq_nil_of_length_eq_zero (by omega)
      rw [HE]
      clear HE hv HX hr
      go_enter Tryd.func15, Tryd.ntmps15
      go_wp2_with (fail)
      refine HC.out.mono ?_
      rintro e w1 ⟨rfl, hb⟩
      have HB := Lib.hid hb; clear hb
      go_wp2_with (fail)
      go_ret
      exact ⟨rfl, HB.out⟩
  · rw [decide_eq_false h4, Bool.false_and]
    have h5 : 400 < l.length := by omega
    clear hn
    go_enter Tryd.func15, Tryd.ntmps15
    go_wp2_with (fail)
    go_ret
    exact ⟨rfl, Below.refl _ _⟩
theorem xend_any (l : List No) (A : Option Addr) (c k : Nat) (w : World) (hn : Nds w A l) (hl : l.length ≤ 4294967296) : Calls Tryd.prog 21 #[.slice A l.length c, .int .i64 (k : Int)] w (Gives (onv l.length (ex 25 (l.drop k))) w) := by
  have HC := Lib.hid (one_any 25 l A c k 0 w hn rfl hl)
  clear hn
  generalize onv l.length (ex 25 (l.drop k)) = v at *
  go_enter Tryd.func21, Tryd.ntmps21
  go_wp2_with (fail)
  refine HC.out.mono ?_
  rintro e w1 ⟨rfl, hb⟩
  have HB := Lib.hid hb; clear hb
  go_wp2_with (fail)
  go_ret
  exact ⟨rfl, HB.out⟩
theorem ts_len {f : List No → List UInt8} {g : List No → Option (List No)} (k : Nat) {r r' : List No} (h : g r = some r') : (ts f g (k + 1) r).length = 1 + (f r).length + (ts f g k r').length := by
  rw [ts_succ h, List.length_cons, List.length_append]; omega
set_option maxRecDepth 100000 in
set_option maxHeartbeats 4000000 in
theorem xwrite_any : ∀ (d : Nat) (l r : List No) (A : Option Addr) (c k : Nat) (w : World), Nds w A l → ex d (l.drop k) = some r → d ≤ 25 → l.length ≤ 1000 → Calls Tryd.prog 22 #[.slice A l.length c, .int .i64 (k : Int)] w (Gives (.string (tx (wt d (l.drop k)))) w)
  | 0, _, _, _, _, _, _, _, h, _, _ => by cases h
  | d + 1, l, r, A, c, k, w, hn, h, hd, hl => by
    have hk : k < l.length := by
      rcases Nat.lt_or_ge k l.length with h1 | h1
      · exact h1
      · rw [List.drop_of_length_le h1, ex_nil] at h; cases h
    have ih := xwrite_any d
    obtain ⟨B, O, rfl⟩ := hn.shape (by omega)
    have HI : Hid (∀ (r : List No) (k : Nat) (w : World), Nds w (some ⟨B, O, none⟩) l → ex d (l.drop k) = some r → Calls Tryd.prog 22 #[.slice (some ⟨B, O, none⟩) l.length c, .int .i64 (k : Int)] w (Gives (.string (tx (wt d (l.drop k)))) w)) :=
      fun r k w h1 h2 => ih l r (some ⟨B, O, none⟩) c k w h1 h2 (by omega) hl
    clear ih
    have e0 := hn.cell hk 0 _ rfl
    have e1 := hn.cell hk 1 _ rfl
    have e2 := hn.cell hk 2 _ rfl
    have e3 := hn.cell hk 3 _ rfl
    have e4 := hn.cell hk 4 _ rfl
    have e5 := hn.cell hk 5 _ rfl
    rw [Nat.add_zero] at e0
    have hmax := wt_max _ _ _ h
    rw [drop_nd hk] at h hmax ⊢
    rw [ex_cons] at h
    have hrn : rn (nd l k) = true := by
      rcases Bool.eq_false_or_eq_true (rn (nd l k)) with hr | hr
      · exact hr
      · rw [hr] at h; cases h
    rw [if_pos hrn] at h
    have hrc := rn_cases hrn
    rw [wt_cons] at hmax ⊢
    have hml : (nd l k :: l.drop (k + 1)).length ≤ 1000 := by rw [List.length_cons, List.length_drop]; omega
    generalize (nd l k :: l.drop (k + 1)).length = L at *
    generalize nd l k = n at *
    obtain ⟨o, vk, vn, vs, vx, vy⟩ := n
    have hvs : (tx vs).data.toList = vs := tx_list vs
    dsimp only at *
    have HN := Lib.hid hn; have HEX := Lib.hid h
    clear hn h hrn
    by_cases h0 : o = 0
    · subst h0
      have hv : rt ⟨vk, vn, vs, vx, vy⟩ = true := by
        rcases hrc with ⟨_, h⟩ | ⟨h, _⟩ | ⟨h, _⟩
        · exact h
        · cases h
        · exact absurd h.1 (by decide)
      have HV := Lib.hid (rwrite_yes (k := vk) (n := vn) (x := vx) (y := vy) (s := tx vs) (by rw [hvs]; exact hv))
      rw [hvs] at HV
      rw [if_pos rfl]
      clear hrc hmax hv hvs
      generalize tx (wr ⟨vk, vn, vs, vx, vy⟩) = q at *
      generalize tx vs = s at *
      go_enter Tryd.func22, Tryd.ntmps22
      go_wp2_with (fail)
      have kb := box1 w (.cells #[.int .i64 0, .int .i64 vk, .int .i64 vn, .string s, .int .i64 vx, .int .i64 vy] 50)
      generalize w.alloc (.cells #[.int .i64 0, .int .i64 vk, .int .i64 vn, .string s, .int .i64 vx, .int .i64 vy] 50) = w1 at *
      refine (HV.out _).mono ?_
      rintro e w2 ⟨rfl, hb⟩
      have HB := Lib.hid (Below.next kb hb); clear hb
      go_wp2_with (fail)
      go_ret
      exact ⟨rfl, HB.out⟩
    by_cases h1 : o = 1
    · subst h1
      have hv : 0 ≤ vn ∧ vn < 5 := by
        rcases hrc with ⟨h, _⟩ | ⟨_, _, h⟩ | ⟨h, _⟩
        · cases h
        · exact h
        · exact absurd h.1 (by decide)
      have HV := Lib.hid (rname_any hv)
      rw [if_neg h0, if_pos rfl]
      clear hrc hmax hv hvs
      generalize tx (nm vn) = q at *
      generalize tx vs = s at *
      go_enter Tryd.func22, Tryd.ntmps22
      go_wp2_with (fail)
      have kb := box1 w (.cells #[.int .i64 1, .int .i64 vk, .int .i64 vn, .string s, .int .i64 vx, .int .i64 vy] 50)
      generalize w.alloc (.cells #[.int .i64 1, .int .i64 vk, .int .i64 vn, .string s, .int .i64 vx, .int .i64 vy] 50) = w1 at *
      refine (HV.out _).mono ?_
      rintro e w2 ⟨rfl, hb⟩
      have HB := Lib.hid (Below.next kb hb); clear hb
      go_wp2_with (fail)
      go_ret
      exact ⟨rfl, HB.out⟩
    · rw [if_neg h0, if_neg h1] at hmax ⊢
      clear hrc hvs
      have HWD := Lib.hid (word_any o)
      have HPT := Lib.hid (rparts_any o)
      have hp3 := pa_le o
      have g0 : (o == 0) = false := beq_eq_false_iff_ne.2 h0
      have g1 : (o == 1) = false := beq_eq_false_iff_ne.2 h1
      have hfull : (40 :: (wd o ++ (ts (wt d) (ex d) (pa o) (l.drop (k + 1)) ++ [41]))).length ≤ 12300000 := by omega
      have htx : ∀ dn : List UInt8, dn = 40 :: (wd o ++ ts (wt d) (ex d) (pa o) (l.drop (k + 1))) → tx dn ++ ⟨#[41]⟩ = tx (40 :: (wd o ++ (ts (wt d) (ex d) (pa o) (l.drop (k + 1)) ++ [41]))) := fun dn e => by
        rw [e, show (⟨#[41]⟩ : ByteArray) = tx [41] from rfl, tx_append]; simp
      have hst : tx [40] ++ tx (wd o) = tx (40 :: wd o) := by rw [tx_append]; rfl
      have hst2 : (40 :: wd o) ++ ts (wt d) (ex d) (pa o) (l.drop (k + 1)) = 40 :: (wd o ++ ts (wt d) (ex d) (pa o) (l.drop (k + 1))) := rfl
      have hlw : (40 :: (wd o ++ ts (wt d) (ex d) (pa o) (l.drop (k + 1)))).length ≤ 12300000 := by
        simp only [List.length_cons, List.length_append] at hfull ⊢; omega
      have hwo : (tx (wd o)).size ≤ 12300000 := by
        rw [tx_size]; simp only [List.length_cons, List.length_append] at hfull; omega
      have HST := Lib.hid hst; have HST2 := Lib.hid hst2; have HTX := Lib.hid htx
      clear hst hst2 htx hfull hmax h0 h1
      generalize 40 :: (wd o ++ (ts (wt d) (ex d) (pa o) (l.drop (k + 1)) ++ [41])) = T at *
      generalize 40 :: (wd o ++ ts (wt d) (ex d) (pa o) (l.drop (k + 1))) = F at *
      generalize 40 :: wd o = S0 at *
      generalize tx (wd o) = sw at *
      generalize pa o = p at *
      generalize tx vs = s at *
      have gs : ¬ 1 + sw.size > 9223372036854775807 := by omega
      clear hwo
      go_enter Tryd.func22, Tryd.ntmps22
      go_wp2_with (fail)
      have kb := box1 w (.cells #[.int .i64 o, .int .i64 vk, .int .i64 vn, .string s, .int .i64 vx, .int .i64 vy] 50)
      have D := Blk.made w 50 [.int .i64 o, .int .i64 vk, .int .i64 vn, .string s, .int .i64 vx, .int .i64 vy] rfl
      change Blk (w.alloc (.cells #[.int .i64 o, .int .i64 vk, .int .i64 vn, .string s, .int .i64 vx, .int .i64 vy] 50)) w.heap.size _ at D
      generalize w.alloc (.cells #[.int .i64 o, .int .i64 vk, .int .i64 vn, .string s, .int .i64 vx, .int .i64 vy] 50) = w1 at *
      refine (HWD.out _).mono ?_
      rintro e w2 ⟨rfl, hb⟩
      have HB := Lib.hid (Below.next kb hb)
      have HD := Lib.hid (D.next hb)
      clear hb kb D e0 e1 e2 e3 e4 e5
      go_wp2_with (fail)
      go_loopw [6, 1, 7] (fun u a i wr => ∃ (y q : Nat) (dn : List UInt8), q ≤ p ∧ y ≤ l.length ∧ u = .string (tx dn) ∧ i = .int .i64 (q : Int) ∧ a = .int .i64 (y : Int) ∧ it (ex d) (p - q) (l.drop y) = some r ∧ dn ++ ts (wt d) (ex d) (p - q) (l.drop y) = F ∧ Below w.heap.size w wr ∧ Blk wr w.heap.size [.int .i64 o, .int .i64 vk, .int .i64 vn, .string s, .int .i64 vx, .int .i64 vy]) (fun _ _ i _ => p - (intOf i).toNat)
      case atStart => exact ⟨k + 1, 0, S0, Nat.zero_le _, by omega, by rw [← HST.out]; rfl, rfl, by go_num, HEX.out, HST2.out, HB.out, HD.out⟩
      case round =>
        obtain ⟨y, q, dn, hq, hy, rfl, rfl, rfl, hz, hf, hb, hd1⟩ := hrel
        have c0 := hd1.c 0 _ rfl
        have HB1 := Lib.hid hb
        have HD1 := Lib.hid hd1
        have HZ := Lib.hid hz
        have HF := Lib.hid hf
        clear hb hz hf hd1 HB HD HEX
        go_wp2_with (fail)
        refine (HPT.out _).mono ?_
        rintro e w4 ⟨rfl, hb⟩
        have HB4 := Lib.hid (Below.next HB1.out hb)
        have HD4 := Lib.hid (HD1.out.next hb)
        clear hb HB1 HD1 c0
        by_cases hlt : q < p
        · have hz := HZ.out
          have hf := HF.out
          rw [show p - q = (p - (q + 1)) + 1 by omega] at hz hf
          rw [it_succ] at hz
          obtain ⟨r1, h1, h2⟩ := Option.bind_eq_some_iff.1 hz
          rw [ts_succ h1] at hf
          have HC := fun w hw => Lib.hid (HI.out r1 y w hw h1)
          have HX := fun w hw => xend_any l (some ⟨B, O, none⟩) c y w hw (by omega)
          rw [ex_more h1 (by omega)] at HX
          obtain ⟨g1', g2, g3⟩ := ex_drop_len h1 hy
          unfold onv at HX
          dsimp only at HX
          obtain ⟨v, hv⟩ : ∃ v, l.length - r1.length = v := ⟨_, rfl⟩
          rw [hv] at HX g1' g2
          rw [g1'] at h2 hf
          have hlen : dn.length + 1 + (wt d (l.drop y)).length ≤ 12300000 := by
            have := congrArg List.length hf
            simp only [List.length_cons, List.length_append] at this
            omega
          have HT : Hid (tx dn ++ ⟨#[32]⟩ ++ tx (wt d (l.drop y)) = tx (dn ++ 32 :: wt d (l.drop y))) := by
            show _ = _
            rw [show (⟨#[32]⟩ : ByteArray) = tx [32] from rfl, tx_append, tx_append]; simp
          have HF2 : Hid (dn ++ 32 :: wt d (l.drop y) ++ ts (wt d) (ex d) (p - (q + 1)) (l.drop v) = F) := by
            show _ = _
            rw [← hf]; simp
          have HZ2 := Lib.hid h2
          have hv2 : v ≤ l.length := by omega
          have zd : (tx dn).size = dn.length := tx_size _
          have zw : (tx (wt d (l.drop y))).size = (wt d (l.drop y)).length := tx_size _
          have gs1 : ¬ (tx dn).size + 1 > 9223372036854775807 := by omega
          have gs2 : ¬ (tx dn).size + 1 + (tx (wt d (l.drop y))).size > 9223372036854775807 := by omega
          have HC2 := Lib.hid HC; have HX2 := Lib.hid HX
          clear hz hf h1 h2 HZ HF g1' hv zd zw hlen HC HX
          generalize dn ++ 32 :: wt d (l.drop y) = dn2 at *
          generalize tx dn = td at *
          generalize tx (wt d (l.drop y)) = tw at *
          go_wp2_with (fail)
          refine (HC2.out _ (HN.out.next HB4.out)).out.mono ?_
          rintro e w5 ⟨rfl, hb⟩
          have HB5 := Lib.hid (Below.next HB4.out hb)
          have HD5 := Lib.hid (HD4.out.next hb)
          clear hb
          go_wp2_with (fail)
          refine (HX2.out _ (HN.out.next HB5.out)).mono ?_
          rintro e w6 ⟨rfl, hb⟩
          have HB6 := Lib.hid (Below.next HB5.out hb)
          have HD6 := Lib.hid (HD5.out.next hb)
          clear hb
          go_wp2_with (fail)
          go_roundw
          case rel => exact ⟨v, q + 1, dn2, by omega, hv2, by rw [← HT.out], by go_num, rfl, HZ2.out, HF2.out, HB6.out, HD6.out⟩
          case measure => simp [intOf]; omega
        · have HE : Hid (tx dn ++ ⟨#[41]⟩ = tx T) := HTX.out dn (by
            have := HF.out
            rw [show p - q = 0 by omega] at this
            rw [← this]
            exact (List.append_nil _).symm)
          have zd : (tx dn).size = dn.length := tx_size _
          have hdl : dn.length ≤ 12300000 := by
            have := congrArg List.length HF.out
            rw [List.length_append] at this
            omega
          have gs1 : ¬ (tx dn).size + 1 > 9223372036854775807 := by omega
          clear HF HZ zd hdl
          generalize tx dn = td at *
          go_wp2_with (fail)
          go_ret
          exact ⟨ret_str HE.out, HB4.out⟩
end Go.Proofs.YtoenilppcoifpaaDoor.Ex
/-
  Which names a list has.
-/
namespace Go.Proofs.YtoenilppcoifpaaDoor.Ex
open Go.ChangeShapes Go.WideShapes Go.ChangeAt Go.RowKit Go.Proofs.YtoenilppcoifpaaDoor.Ov Go.Proofs.YtoenilppcoifpaaDoor.Va

/-- Is the name i among the first k nodes? -/
def hasN (l : List No) (k i : Nat) : Bool := (l.take k).any fun n => n.o == 1 && n.v.n == (i : Int)
def hasL (l : List No) (k : Nat) : List Value := (List.range 5).map fun i => Value.bool (hasN l k i)
theorem hasN_zero (l : List No) (i : Nat) : hasN l 0 i = false := rfl
theorem hasN_succ {l : List No} {k : Nat} (h : k < l.length) (i : Nat) : hasN l (k + 1) i = (hasN l k i || ((nd l k).o == 1 && (nd l k).v.n == (i : Int))) := by
  unfold hasN
  rw [nd_at h, List.take_succ_eq_append_getElem h, List.any_append]; simp
theorem hasL_zero (l : List No) : hasL l 0 = [.bool false, .bool false, .bool false, .bool false, .bool false] := rfl
theorem hasL_other {l : List No} {k : Nat} (h : k < l.length) (ho : (nd l k).o ≠ 1) : hasL l (k + 1) = hasL l k := by
  unfold hasL
  apply List.map_congr_left
  intro i _
  rw [hasN_succ h, show ((nd l k).o == 1) = false from beq_eq_false_iff_ne.2 ho]; simp
theorem hasL_name {l : List No} {k j : Nat} (h : k < l.length) (ho : (nd l k).o = 1) (hj : (nd l k).v.n = (j : Int)) (hj5 : j < 5) : hasL l (k + 1) = (hasL l k).set j (.bool true) := by
  apply List.ext_getElem?
  intro i
  unfold hasL
  rw [List.getElem?_set]
  by_cases hi : i < 5
  · rw [List.getElem?_map, List.getElem?_range hi]
    simp only [Option.map_some]
    rw [hasN_succ h, ho, hj]
    by_cases e : j = i
    · subst e
      rw [if_pos rfl, if_pos (by simpa using hj5)]; simp
    · rw [if_neg e, List.getElem?_map, List.getElem?_range hi]
      have e2 : ((j : Int) == (i : Int)) = false := by rw [beq_eq_false_iff_ne]; omega
      rw [e2]; simp
  · rw [List.getElem?_eq_none (by simp; omega)]
    by_cases e : j = i
    · omega
    · rw [if_neg e, List.getElem?_eq_none (by simp; omega)]
theorem hasL_get (l : List No) (k : Nat) {i : Nat} (hi : i < 5) : (hasL l k)[i]? = some (.bool (hasN l k i)) := by
  unfold hasL
  rw [List.getElem?_map, List.getElem?_range hi]; rfl
/-- The names of a list, as a value. -/
def hnv (l : List No) (k : Nat) : Value := .agg #[.bool (hasN l k 0), .bool (hasN l k 1), .bool (hasN l k 2), .bool (hasN l k 3), .bool (hasN l k 4)]
def nmv (l : List No) : Value := if Rt l = true then hnv l l.length else .agg #[.bool false, .bool false, .bool false, .bool false, .bool false]
theorem Rt_names {l : List No} (h : Rt l = true) : ∀ k, k < l.length → rn (nd l k) = true := by
  intro k hk
  obtain ⟨_, hex⟩ := Rt_in h
  obtain ⟨r', h'⟩ := ex_each 25 l [] hex k (by simpa using hk)
  rw [drop_nd hk, ex_cons] at h'
  rcases Bool.eq_false_or_eq_true (rn (nd l k)) with hr | hr
  · exact hr
  · rw [hr] at h'; cases h'
theorem name_in {n : No} (h : rn n = true) (ho : n.o = 1) : ∃ j : Nat, n.v.n = (j : Int) ∧ j < 5 := by
  rcases rn_cases h with ⟨h1, _⟩ | ⟨_, _, h1⟩ | ⟨h1, _⟩
  · omega
  · exact ⟨n.v.n.toNat, by omega, by omega⟩
  · omega
set_option maxRecDepth 100000 in
set_option maxHeartbeats 4000000 in
theorem names_any (l : List No) (A : Option Addr) (c : Nat) (w : World) (hn : Nds w A l) (hk : KN w) (hl : l.length ≤ 4294967296) : Calls Tryd.prog 17 #[.slice A l.length c] w (Gives (nmv l) w) := by
  have HN := Lib.hid hn; have HK := Lib.hid hk
  clear hn hk
  obtain ⟨q, hq⟩ : ∃ q, Rt l = q := ⟨_, rfl⟩
  have HQ := Lib.hid hq
  go_enter Tryd.func17, Tryd.ntmps17
  go_wp2_with (fail)
  have hb2 := box2 w (.cells #[.bool false, .bool false, .bool false, .bool false, .bool false] 38) (.cells #[.bool false, .bool false, .bool false, .bool false, .bool false] 38)
  have D2 : Blk ((w.alloc (.cells #[.bool false, .bool false, .bool false, .bool false, .bool false] 38)).alloc (.cells #[.bool false, .bool false, .bool false, .bool false, .bool false] 38)) w.heap.size (hasL l 0) := (Blk.made w 38 (hasL l 0) rfl).old _
  have D3 : Blk ((w.alloc (.cells #[.bool false, .bool false, .bool false, .bool false, .bool false] 38)).alloc (.cells #[.bool false, .bool false, .bool false, .bool false, .bool false] 38)) (w.heap.size + 1) (hasL l 0) := Blk.made (w.alloc (.cells #[.bool false, .bool false, .bool false, .bool false, .bool false] 38)) 38 (hasL l 0) (World.size_alloc _ _)
  generalize (w.alloc (.cells #[.bool false, .bool false, .bool false, .bool false, .bool false] 38)).alloc (.cells #[.bool false, .bool false, .bool false, .bool false, .bool false] 38) = v at *
  have HC := Lib.hid (eright_any l A c v (HN.out.next hb2) (HK.out.next hb2) hl)
  rw [hq] at HC
  refine HC.out.mono ?_
  rintro e w1 ⟨rfl, hb⟩
  have HB1 := Lib.hid (Below.next hb2 hb)
  have HD2 := Lib.hid (D2.next hb)
  have HD3 := Lib.hid (D3.next hb)
  clear hb hb2 D2 D3 HK HC hq
  cases q with
  | false =>
    have HE : Hid (nmv l = .agg #[.bool false, .bool false, .bool false, .bool false, .bool false]) := by show _ = _; unfold nmv; rw [if_neg (by rw [HQ.out]; decide)]
    have HZ2 := Lib.hid (HD2.out.cast (hasL_zero l))
    have HZ3 := Lib.hid (HD3.out.cast (hasL_zero l))
    have d0 := HZ3.out.c 0 _ rfl; have d1 := HZ3.out.c 1 _ rfl; have d2 := HZ3.out.c 2 _ rfl; have d3 := HZ3.out.c 3 _ rfl; have d4 := HZ3.out.c 4 _ rfl
    have a0 := HZ2.out.c 0 _ rfl; have a1 := HZ2.out.c 1 _ rfl; have a2 := HZ2.out.c 2 _ rfl; have a3 := HZ2.out.c 3 _ rfl; have a4 := HZ2.out.c 4 _ rfl
    have f0 := HZ2.out.f 0 _ rfl; have f1 := HZ2.out.f 1 _ rfl; have f2 := HZ2.out.f 2 _ rfl; have f3 := HZ2.out.f 3 _ rfl; have f4 := HZ2.out.f 4 _ rfl
    clear HD2 HD3
    go_wp2_with (fail)
    have RF := ((((HZ2.out.set 0 (.bool false)).set 1 (.bool false)).set 2 (.bool false)).set 3 (.bool false)).set 4 (.bool false)
    have c0 := RF.c 0 _ rfl; have c1 := RF.c 1 _ rfl; have c2 := RF.c 2 _ rfl; have c3 := RF.c 3 _ rfl; have c4 := RF.c 4 _ rfl
    clear RF
    rw [HE.out]
    refine bodyPost_ret (v := .agg #[.bool false, .bool false, .bool false, .bool false, .bool false]) (by simp [results, Tryd.results17, go_sem, c0, c1, c2, c3, c4]) rfl ⟨rfl, ?_⟩
    exact below_all5 HB1.out (Nat.le_refl _) _ _ _ _ _
  | true =>
    have HE : Hid (nmv l = hnv l l.length) := by show _ = _; unfold nmv; rw [if_pos HQ.out]
    have HRN := Lib.hid (Rt_names HQ.out)
    have hsz : w.heap.size + 1 < w1.heap.size := HD3.out.lt
    go_wp2_with (fail)
    go_loopw [12] (fun i wr => ∃ k : Nat, k ≤ l.length ∧ i = .int .i64 (k : Int) ∧ Below w.heap.size w wr ∧ Blk wr w.heap.size (hasL l 0) ∧ Blk wr (w.heap.size + 1) (hasL l k)) (fun i _ => l.length - (intOf i).toNat)
    case atStart => exact ⟨0, Nat.zero_le _, rfl, HB1.out, HD2.out, HD3.out⟩
    case round =>
      obtain ⟨k, hk, rfl, hb, hz2, hz3⟩ := hrel
      have HB := Lib.hid hb; have HN1 := Lib.hid (HN.out.next hb); have HZ2 := Lib.hid hz2; have HZ3 := Lib.hid hz3
      clear hb hz2 hz3 HD2 HD3 HB1 hsz
      by_cases hlt : k < l.length
      · obtain ⟨G, O, rfl⟩ := HN1.out.shape (by omega)
        have e0 := HN1.out.cell hlt 0 _ rfl
        have e1 := HN1.out.cell hlt 1 _ rfl
        have e2 := HN1.out.cell hlt 2 _ rfl
        have e3 := HN1.out.cell hlt 3 _ rfl
        have e4 := HN1.out.cell hlt 4 _ rfl
        have e5 := HN1.out.cell hlt 5 _ rfl
        rw [Nat.add_zero] at e0
        have hgl : G < wr.heap.size := HN1.out.lt (by omega)
        have hzl := HZ3.out.lt
        have hlo := HB.out.size
        by_cases ho : (nd l k).o = 1
        · obtain ⟨j, hj, hj5⟩ := name_in (HRN.out k hlt) ho
          have HL := Lib.hid (hasL_name hlt ho hj hj5)
          rw [ho] at e0
          rw [hj] at e2
          clear ho hj
          generalize nd l k = n at *
          have hb1 := box1 wr (.cells #[.int .i64 1, .int .i64 n.v.k, .int .i64 (j : Int), .string (tx n.v.s), .int .i64 n.v.x, .int .i64 n.v.y] 53)
          have HZ4 := Lib.hid (HZ3.out.next hb1)
          have HY4 := Lib.hid (HZ2.out.next hb1)
          have HB4 := Lib.hid (Below.next HB.out hb1)
          have b3 := HZ4.out.c j _ (hasL_get l k hj5)
          have f3 := HZ4.out.f j _ (hasL_get l k hj5)
          clear hb1
          go_wp2_with (fail)
          go_roundw
          case rel => exact ⟨k + 1, by omega, by go_num, (HB.out.setCell (p := ⟨w.heap.size + 1, j, none⟩) (Nat.le_succ _) _).alloc (by simp; omega) _, (HZ2.out.put (c := w.heap.size + 1) (by omega) j (.bool true)).old _, ((HZ3.out.set j (.bool true)).old _).cast HL.out.symm⟩
          case measure => simp [intOf]; omega
        · have HL := Lib.hid (hasL_other hlt ho)
          have g1 : ((nd l k).o == 1) = false := beq_eq_false_iff_ne.2 ho
          clear ho
          generalize nd l k = n at *
          have hb1 := box1 wr (.cells #[.int .i64 n.o, .int .i64 n.v.k, .int .i64 n.v.n, .string (tx n.v.s), .int .i64 n.v.x, .int .i64 n.v.y] 53)
          have HZ4 := Lib.hid (HZ3.out.next hb1)
          have HY4 := Lib.hid (HZ2.out.next hb1)
          have HB4 := Lib.hid (Below.next HB.out hb1)
          clear hb1
          go_wp2_with (fail)
          go_roundw
          case rel => exact ⟨k + 1, by omega, by go_num, HB4.out, HY4.out, HZ4.out.cast HL.out.symm⟩
          case measure => simp [intOf]; omega
      · obtain rfl : k = l.length := by omega
        have HY := Lib.hid (HZ2.out.cast (hasL_zero l))
        have d0 := HZ3.out.c 0 _ (hasL_get l _ (by omega)); have d1 := HZ3.out.c 1 _ (hasL_get l _ (by omega)); have d2 := HZ3.out.c 2 _ (hasL_get l _ (by omega)); have d3 := HZ3.out.c 3 _ (hasL_get l _ (by omega)); have d4 := HZ3.out.c 4 _ (hasL_get l _ (by omega))
        have a0 := HY.out.c 0 _ rfl; have a1 := HY.out.c 1 _ rfl; have a2 := HY.out.c 2 _ rfl; have a3 := HY.out.c 3 _ rfl; have a4 := HY.out.c 4 _ rfl
        have f0 := HY.out.f 0 _ rfl; have f1 := HY.out.f 1 _ rfl; have f2 := HY.out.f 2 _ rfl; have f3 := HY.out.f 3 _ rfl; have f4 := HY.out.f 4 _ rfl
        have HRES : Hid (nmv l = .agg #[.bool (hasN l l.length 0), .bool (hasN l l.length 1), .bool (hasN l l.length 2), .bool (hasN l l.length 3), .bool (hasN l l.length 4)]) := HE.out
        clear HE HZ2 HZ3
        generalize hasN l l.length 0 = p0 at *
        generalize hasN l l.length 1 = p1 at *
        generalize hasN l l.length 2 = p2 at *
        generalize hasN l l.length 3 = p3 at *
        generalize hasN l l.length 4 = p4 at *
        go_wp2_with (fail)
        have RF := ((((HY.out.set 0 (.bool p0)).set 1 (.bool p1)).set 2 (.bool p2)).set 3 (.bool p3)).set 4 (.bool p4)
        have c0 := RF.c 0 _ rfl; have c1 := RF.c 1 _ rfl; have c2 := RF.c 2 _ rfl; have c3 := RF.c 3 _ rfl; have c4 := RF.c 4 _ rfl
        clear RF
        rw [HRES.out]
        refine bodyPost_ret (v := .agg #[.bool p0, .bool p1, .bool p2, .bool p3, .bool p4]) (by simp [results, Tryd.results17, go_sem, c0, c1, c2, c3, c4]) rfl ⟨rfl, ?_⟩
        exact below_all5 HB.out (Nat.le_refl _) _ _ _ _ _
end Go.Proofs.YtoenilppcoifpaaDoor.Ex
/-
  '==' of two arrays of five bools that are the same.
-/
namespace Go.Proofs.YtoenilppcoifpaaDoor.Ex
open Go.ChangeShapes Go.WideShapes Go.ChangeAt Go.RowKit Go.Proofs.YtoenilppcoifpaaDoor.Ov Go.Proofs.YtoenilppcoifpaaDoor.Va

set_option maxRecDepth 100000 in
set_option maxHeartbeats 1000000 in
theorem arr_same (a b c d e : Bool) (w : World) : (binOp .eql 38 (.agg #[.bool a, .bool b, .bool c, .bool d, .bool e]) (.agg #[.bool a, .bool b, .bool c, .bool d, .bool e])).run Tryd.prog w = .ok (.bool true) w := by
  have u := Tryd.underlying4
  have hi : ∃ i, Tryd.prog.info? 4 = some i := by
    have h : (Tryd.prog.info? 4).isSome = true := by kernel_rfl
    exact Option.isSome_iff_exists.1 h
  obtain ⟨i, hi⟩ := hi
  have hc : Tryd.prog.cellsOf 4 = 1 := by kernel_rfl
  rw [run_eql_struct, show (10000 : Nat) = 9999 + 1 from rfl, run_equalIn_array w 9999 _ _ Tryd.underlying38 hi, hc]
  clear hi hc
  rw [show List.range 5 = [0, 1, 2, 3, 4] from rfl]
  simp only [Op.eqItems]
  go_simp
end Go.Proofs.YtoenilppcoifpaaDoor.Ex

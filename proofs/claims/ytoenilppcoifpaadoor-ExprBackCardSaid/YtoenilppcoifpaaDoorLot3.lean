/-
  The texts of this claim, lot 3: ExEnd, OvBuild, OvBld, VaWrite, VaWrite2, OvBuildK, ExWrite, ExBoth, ExEnds.
-/
import Derived.Test.YtoenilppcoifpaaDoorLot2
import Derived.Shelf.Strings.Builder1
import Derived.Shelf.Strings.BuilderK
import Derived.Lib.OthersKept
/-
  Where an expression ends; is a list right?
-/
namespace Go.Proofs.YtoenilppcoifpaaDoor.Ex
open Go.ChangeShapes Go.WideShapes Go.ChangeAt Go.RowKit Go.Proofs.YtoenilppcoifpaaDoor.Ov Go.Proofs.YtoenilppcoifpaaDoor.Va

/-- What end answers. -/
def enx (n : Nat) : Option (List No) → Value
  | some r => .tuple #[.int .i64 ((n - r.length : Nat) : Int), .bool true]
  | none => .tuple #[.int .i64 0, .bool false]
theorem rnv_nd (n : No) : rnv n.o n.v.k n.v.n (tx n.v.s) n.v.x n.v.y = rn n := by unfold rnv; rw [tx_list]
theorem rn_range {n : No} (h : rn n = true) : 0 ≤ n.o ∧ n.o ≤ 29 := by
  rcases rn_cases h with ⟨h, _⟩ | ⟨h, _⟩ | ⟨h, _⟩ <;> omega
theorem ex_drop_len {d k : Nat} {l r : List No} (h : ex d (l.drop k) = some r) (hk : k ≤ l.length) : r = l.drop (l.length - r.length) ∧ k < l.length - r.length ∧ r.length ≤ l.length := by
  obtain ⟨h1, h2⟩ := ex_len h
  rw [List.length_drop] at h1 h2
  rw [List.drop_drop] at h2
  refine ⟨?_, by omega, by omega⟩
  rw [show k + (l.length - k - r.length) = l.length - r.length by omega] at h2
  exact h2
theorem end_out {l : List No} {A : Option Addr} {c k wi : Nat} {w : World} (d : Nat) (hk : ¬ k < l.length) : Calls Tryd.prog 26 #[.slice A l.length c, .int .i64 (k : Int), .int .i64 (wi : Int)] w (Gives (enx l.length (ex d (l.drop k))) w) := by
  have HE : Hid (enx l.length (ex d (l.drop k)) = .tuple #[.int .i64 0, .bool false]) := by
    show _ = _
    rw [List.drop_of_length_le (by omega), ex_nil]; rfl
  go_enter Tryd.func26, Tryd.ntmps26
  go_wp2_with (fail)
  go_ret2
  exact ⟨by rw [HE.out]; rfl, Below.refl _ _⟩
theorem end_deep {l : List No} {A : Option Addr} {c k : Nat} {w : World} (hk : k < l.length) : Calls Tryd.prog 26 #[.slice A l.length c, .int .i64 (k : Int), .int .i64 25] w (Gives (enx l.length (ex 0 (l.drop k))) w) := by
  have HE : Hid (enx l.length (ex 0 (l.drop k)) = .tuple #[.int .i64 0, .bool false]) := rfl
  go_enter Tryd.func26, Tryd.ntmps26
  go_wp2_with (fail)
  go_ret2
  exact ⟨by rw [HE.out]; rfl, Below.refl _ _⟩
set_option maxRecDepth 100000 in
set_option maxHeartbeats 4000000 in
theorem end_any : ∀ (d : Nat) (l : List No) (A : Option Addr) (c k wi : Nat) (w : World), Nds w A l → KN w → wi + d = 25 → l.length ≤ 4294967296 → Calls Tryd.prog 26 #[.slice A l.length c, .int .i64 (k : Int), .int .i64 (wi : Int)] w (Gives (enx l.length (ex d (l.drop k))) w)
  | d, l, A, c, k, wi, w, hn, hkn, hwi, hl => by
    by_cases hk : k < l.length
    · cases d with
      | zero =>
        obtain rfl : wi = 25 := by omega
        exact end_deep hk
      | succ d =>
        have ih := end_any d
        obtain ⟨B, O, rfl⟩ := hn.shape (by omega)
        have HI : Hid (∀ (k wi : Nat) (w : World), Nds w (some ⟨B, O, none⟩) l → KN w → wi + d = 25 → Calls Tryd.prog 26 #[.slice (some ⟨B, O, none⟩) l.length c, .int .i64 (k : Int), .int .i64 (wi : Int)] w (Gives (enx l.length (ex d (l.drop k))) w)) :=
          fun k wi w h1 h2 h3 => ih l (some ⟨B, O, none⟩) c k wi w h1 h2 h3 hl
        clear ih
        have hw : wi ≤ 24 := by omega
        have HE1 : Hid (ex (d + 1) (l.drop k) = if rn (nd l k) = true then it (ex d) (pa (nd l k).o) (l.drop (k + 1)) else none) := by
          show _ = _
          rw [drop_nd hk, ex_cons]
        have HW : Hid (wi + 1 + d = 25) := by show _ = _; omega
        have HN := Lib.hid hn
        have HK := Lib.hid hkn
        clear hn hkn hwi
        have e0 := HN.out.cell hk 0 _ rfl
        have e1 := HN.out.cell hk 1 _ rfl
        have e2 := HN.out.cell hk 2 _ rfl
        have e3 := HN.out.cell hk 3 _ rfl
        have e4 := HN.out.cell hk 4 _ rfl
        have e5 := HN.out.cell hk 5 _ rfl
        rw [Nat.add_zero] at e0
        have HR : Hid (∀ w, KN w → Calls Tryd.prog 36 #[.agg #[.int .i64 (nd l k).o, .int .i64 (nd l k).v.k, .int .i64 (nd l k).v.n, .string (tx (nd l k).v.s), .int .i64 (nd l k).v.x, .int .i64 (nd l k).v.y]] w (Gives (.bool (rn (nd l k))) w)) := fun w h => by
          rw [← rnv_nd]; exact rightNode_any _ _ _ _ _ _ w h
        rcases Bool.eq_false_or_eq_true (rn (nd l k)) with hr | hr
        · obtain ⟨i, hi⟩ : ∃ i : Nat, (nd l k).o = (i : Int) := ⟨(nd l k).o.toNat, by have := rn_range hr; omega⟩
          have hi30 : i < 30 := by have := rn_range hr; omega
          have HE : Hid (ex (d + 1) (l.drop k) = it (ex d) ptl[i]! (l.drop (k + 1))) := by
            show _ = _
            rw [HE1.out, if_pos hr, hi, pa_at hi30]
          have hp3 : ptl[i]! ≤ 3 := by rw [← pa_at hi30]; exact pa_le _
          rw [hr, hi] at HR
          rw [hi] at e0
          clear HE1 hr hi
          generalize ex (d + 1) (l.drop k) = Z at *
          generalize hpp : ptl[i]! = p at *
          have HPP := Lib.hid hpp
          clear hpp
          have HW0 : Hid (B < w.heap.size) := HN.out.lt (by omega)
          have hd1 : decide (l.length ≤ k) = false := decide_eq_false (by omega)
          have hd2 : decide ((24 : Int) < (wi : Int)) = false := decide_eq_false (by omega)
          go_enter Tryd.func26, Tryd.ntmps26
          go_wp2_with (fail)
          refine (HR.out _ HK.out).mono ?_
          rintro e w1 ⟨rfl, hb⟩
          have HN1 := Lib.hid (HN.out.next hb)
          have HK1 := Lib.hid (HK.out.next hb)
          have HB := Lib.hid hb
          have f0 : w1.cell? ⟨B, O + k * 6, none⟩ = some (.int .i64 (i : Int)) := (hb.cell (p := ⟨B, O + k * 6, none⟩) HW0.out).trans e0
          clear hb e0 e1 e2 e3 e4 e5 HR HN HK HW0
          have cK := HK1.out.parts i hi30
          rw [HPP.out, Nat.mul_comm] at cK
          go_wp2_with (fail)
          clear f0 cK
          go_loopw [8, 37] (fun bh j wr => ∃ y q : Nat, q ≤ p ∧ y ≤ l.length ∧ j = .int .i64 (q : Int) ∧ bh = .int .i64 (y : Int) ∧ Z = it (ex d) (p - q) (l.drop y) ∧ Below w1.heap.size w1 wr) (fun _ j _ => p - (intOf j).toNat)
          case atStart => exact ⟨k + 1, 0, Nat.zero_le _, by omega, rfl, rfl, HE.out, Below.refl _ _⟩
          case round =>
            obtain ⟨y, q, hq, hy, rfl, rfl, hz, hb⟩ := hrel
            have HB1 := Lib.hid hb
            have HZ := Lib.hid hz
            clear hb hz
            by_cases hlt : q < p
            · have HC := Lib.hid (HI.out y (wi + 1) wr (HN1.out.next HB1.out) (HK1.out.next HB1.out) HW.out)
              have HZ1 : Hid (Z = (ex d (l.drop y)).bind (it (ex d) (p - (q + 1)))) := by
                show _ = _
                rw [HZ.out, show p - q = (p - (q + 1)) + 1 by omega, it_succ]
              clear HZ
              obtain ⟨x, hx⟩ : ∃ x, ex d (l.drop y) = x := ⟨_, rfl⟩
              rw [hx] at HC HZ1
              have HX := Lib.hid hx
              clear hx
              cases x with
              | none =>
                have HEE : Hid (enx l.length Z = .tuple #[.int .i64 0, .bool false]) := by show _ = _; rw [HZ1.out]; rfl
                clear HZ1
                unfold enx at HC
                go_wp2_with (fail)
                refine HC.out.mono ?_
                rintro e w2 ⟨rfl, hb⟩
                have HB2 := Lib.hid (Below.next HB.out (Below.next HB1.out hb))
                clear hb
                go_wp2_with (fail)
                go_ret2
                exact ⟨by rw [HEE.out]; rfl, HB2.out⟩
              | some r =>
                obtain ⟨g1, g2, g3⟩ := ex_drop_len HX.out hy
                obtain ⟨v, hv⟩ : ∃ v, l.length - r.length = v := ⟨_, rfl⟩
                rw [hv] at g1 g2
                have HZ2 : Hid (Z = it (ex d) (p - (q + 1)) (l.drop v)) := by show _ = _; rw [HZ1.out, ← g1]; rfl
                unfold enx at HC
                dsimp only at HC
                rw [hv] at HC
                have hv2 : v ≤ l.length := by omega
                clear HZ1 g1 hv HX
                go_wp2_with (fail)
                refine HC.out.mono ?_
                rintro e w2 ⟨rfl, hb⟩
                have HB2 := Lib.hid (Below.next HB1.out hb)
                clear hb
                go_wp2_with (fail)
                go_roundw
                case rel => exact ⟨v, q + 1, by omega, hv2, by go_num, rfl, HZ2.out, HB2.out⟩
                case measure => simp [intOf]; omega
            · have HEE : Hid (enx l.length Z = .tuple #[.int .i64 (y : Int), .bool true]) := by
                show _ = _
                rw [HZ.out, show p - q = 0 by omega, it_zero]
                show Value.tuple #[.int .i64 ((l.length - (l.drop y).length : Nat) : Int), .bool true] = _
                rw [List.length_drop, show l.length - (l.length - y) = y by omega]
              have HB2 := Lib.hid (Below.next HB.out HB1.out)
              clear HZ
              go_wp2_with (fail)
              go_ret2
              exact ⟨by rw [HEE.out]; rfl, HB2.out⟩
        · have HE : Hid (enx l.length (ex (d + 1) (l.drop k)) = .tuple #[.int .i64 0, .bool false]) := by
            show _ = _
            rw [HE1.out, if_neg (by rw [hr]; decide)]; rfl
          rw [hr] at HR
          clear HE1 hr
          go_enter Tryd.func26, Tryd.ntmps26
          go_wp2_with (fail)
          refine (HR.out _ HK.out).mono ?_
          rintro e w1 ⟨rfl, hb⟩
          have HB := Lib.hid hb
          clear hb
          go_wp2_with (fail)
          go_ret2
          exact ⟨by rw [HE.out]; rfl, HB.out⟩
    · exact end_out d hk
theorem Rt_val (l : List No) : Rt l = (decide (l.length ≤ 400) && decide (ex 25 l = some [])) := by
  unfold Rt
  rw [Bool.eq_iff_iff]; simp
set_option maxRecDepth 100000 in
theorem eright_any (l : List No) (A : Option Addr) (c : Nat) (w : World) (hn : Nds w A l) (hk : KN w) (hl : l.length ≤ 4294967296) : Calls Tryd.prog 11 #[.slice A l.length c] w (Gives (.bool (Rt l)) w) := by
  rw [Rt_val]
  by_cases h4 : l.length ≤ 400
  · rw [decide_eq_true h4, Bool.true_and]
    have HC := Lib.hid (end_any 25 l A c 0 0 w hn hk rfl hl)
    rw [List.drop_zero] at HC
    clear hn hk
    obtain ⟨x, hx⟩ : ∃ x, ex 25 l = x := ⟨_, rfl⟩
    rw [hx] at HC ⊢
    have HX := Lib.hid hx; clear hx
    cases x with
    | none =>
      rw [decide_eq_false (show ¬ (none : Option (List No)) = some [] by simp)]
      unfold enx at HC
      go_enter Tryd.func11, Tryd.ntmps11
      go_wp2_with (fail)
      refine HC.out.mono ?_
      rintro e w1 ⟨rfl, hb⟩
      have HB := Lib.hid hb; clear hb
      go_wp2_with (fail)
      go_ret
      exact ⟨rfl, HB.out⟩
    | some r =>
      have hr := (ex_len HX.out).1
      unfold enx at HC
      dsimp only at HC
      obtain ⟨v, hv⟩ : ∃ v, l.length - r.length = v := ⟨_, rfl⟩
      rw [hv] at HC
      have HE : decide (some r = some ([] : List No)) = ((v : Int) == (l.length : Int)) := by
        rw [Bool.eq_iff_iff]
        simp only [decide_eq_true_eq, beq_iff_eq, Option.some.injEq]
        constructor
        · rintro rfl; rw [List.length_nil] at hv; omega
        · intro h; exact List.eq_nil_of_length_eq_zero (by omega)
      rw [HE]
      clear HE hv HX hr
      go_enter Tryd.func11, Tryd.ntmps11
      go_wp2_with (fail)
      refine HC.out.mono ?_
      rintro e w1 ⟨rfl, hb⟩
      have HB := Lib.hid hb; clear hb
      go_wp2_with (fail)
      go_ret
      exact ⟨rfl, HB.out⟩
  · rw [decide_eq_false h4, Bool.false_and]
    have h5 : 400 < l.length := by omega
    clear hn hk
    go_enter Tryd.func11, Tryd.ntmps11
    go_wp2_with (fail)
    go_ret
    exact ⟨rfl, Below.refl _ _⟩
/-- What End answers. -/
def edx (l : List No) (a : Int) : Option (List No) := if a < 0 then none else if Rt l = true then ex 25 (l.drop a.toNat) else none
set_option maxRecDepth 100000 in
theorem eend_any (l : List No) (A : Option Addr) (c : Nat) (a : Int) (w : World) (hn : Nds w A l) (hk : KN w) (hl : l.length ≤ 4294967296) : Calls Tryd.prog 16 #[.slice A l.length c, .int .i64 a] w (Gives (enx l.length (edx l a)) w) := by
  by_cases h0 : a < 0
  · have HE : Hid (enx l.length (edx l a) = .tuple #[.int .i64 0, .bool false]) := by show _ = _; unfold edx; rw [if_pos h0]; rfl
    clear hn hk
    go_enter Tryd.func16, Tryd.ntmps16
    go_wp2_with (fail)
    go_ret2
    exact ⟨by rw [HE.out]; rfl, Below.refl _ _⟩
  · obtain ⟨k, rfl⟩ : ∃ k : Nat, a = (k : Int) := ⟨a.toNat, by omega⟩
    have HR := Lib.hid (eright_any l A c w hn hk hl)
    rcases Bool.eq_false_or_eq_true (Rt l) with hr | hr
    · have HE : Hid (enx l.length (edx l (k : Int)) = enx l.length (ex 25 (l.drop k))) := by show _ = _; unfold edx; rw [if_neg h0, if_pos hr]; rfl
      rw [hr] at HR; clear hr
      have HN := Lib.hid hn; have HK := Lib.hid hk
      have HC : Hid (∀ w1, Below w.heap.size w w1 → Calls Tryd.prog 26 #[.slice A l.length c, .int .i64 (k : Int), .int .i64 0] w1 (Gives (enx l.length (ex 25 (l.drop k))) w1)) := fun w1 hb => end_any 25 l A c k 0 w1 (HN.out.next hb) (HK.out.next hb) rfl hl
      clear hn hk
      generalize ex 25 (l.drop k) = x at *
      generalize edx l (k : Int) = y at *
      cases x with
      | none =>
        unfold enx at HC
        go_enter Tryd.func16, Tryd.ntmps16
        go_wp2_with (fail)
        refine HR.out.mono ?_
        rintro e w1 ⟨rfl, hb⟩
        have HB := Lib.hid hb; clear hb
        go_wp2_with (fail)
        refine (HC.out _ HB.out).mono ?_
        rintro e w2 ⟨rfl, hb⟩
        have HB2 := Lib.hid (Below.next HB.out hb); clear hb
        go_wp2_with (fail)
        go_ret2
        exact ⟨by rw [HE.out]; rfl, HB2.out⟩
      | some r =>
        unfold enx at HC
        dsimp only at HC
        generalize hv : ((l.length - r.length : Nat) : Int) = v at *
        have HV := Lib.hid hv; clear hv
        go_enter Tryd.func16, Tryd.ntmps16
        go_wp2_with (fail)
        refine HR.out.mono ?_
        rintro e w1 ⟨rfl, hb⟩
        have HB := Lib.hid hb; clear hb
        go_wp2_with (fail)
        refine (HC.out _ HB.out).mono ?_
        rintro e w2 ⟨rfl, hb⟩
        have HB2 := Lib.hid (Below.next HB.out hb); clear hb
        go_wp2_with (fail)
        go_ret2
        exact ⟨by rw [HE.out, show enx l.length (some r) = .tuple #[.int .i64 v, .bool true] by rw [← HV.out]; rfl]; rfl, HB2.out⟩
    · have HE : Hid (enx l.length (edx l (k : Int)) = .tuple #[.int .i64 0, .bool false]) := by show _ = _; unfold edx; rw [if_neg h0, if_neg (by rw [hr]; decide)]; rfl
      rw [hr] at HR; clear hr hn hk
      go_enter Tryd.func16, Tryd.ntmps16
      go_wp2_with (fail)
      refine HR.out.mono ?_
      rintro e w1 ⟨rfl, hb⟩
      have HB := Lib.hid hb; clear hb
      go_wp2_with (fail)
      go_ret2
      exact ⟨by rw [HE.out]; rfl, HB.out⟩
end Go.Proofs.YtoenilppcoifpaaDoor.Ex
/-
  Of any seat that holds strings.Builder: what WriteString, WriteByte and String answer, by the shelf (laid in plain words; written by gen_lay.py).
-/
namespace Go.Proofs.YtoenilppcoifpaaDoor.Ov
open Go.ChangeShapes Go.WideShapes Go.ChangeAt Go.RowKit Go.Shelf

/-- A builder of the call's own in block b, in which the bytes l lie. -/
def Bld (B b : Nat) (l : List UInt8) (w : World) : Prop := Lib.IsBuilder 58 5 B b (Lib.byteCells l) w
def bwsRen : Ren := ⟨fun | 166 => 33 | 240 => 44 | 276 => 57 | n => n, fun | 0 => 0 | 3 => 3 | 4 => 4 | 5 => 5 | 9 => 9 | 20 => 20 | 37 => 56 | 70 => 55 | 72 => 58 | 75 => 75 | 80 => 61 | 164 => 92 | n => n, fun n => n⟩
theorem bwsLays : Lays.n166 Tryd.prog bwsRen :=
  { mixed := by kernel_rfl
    f166 := by kernel_rfl
    f240 := by kernel_rfl
    f276 := by kernel_rfl
    t0 := by kernel_rfl
    a0 := fun _ => by kernel_rfl
    z0 := fun _ => by kernel_rfl
    v0 := fun _ => by kernel_rfl
    t3 := by kernel_rfl
    a3 := fun _ => by kernel_rfl
    z3 := fun _ => by kernel_rfl
    v3 := fun _ => by kernel_rfl
    t4 := by kernel_rfl
    a4 := fun _ => by kernel_rfl
    z4 := fun _ => by kernel_rfl
    v4 := fun _ => by kernel_rfl
    t9 := by kernel_rfl
    a9 := fun _ => by kernel_rfl
    z9 := fun _ => by kernel_rfl
    v9 := fun _ => by kernel_rfl
    t20 := by kernel_rfl
    a20 := fun _ => by kernel_rfl
    z20 := fun _ => by kernel_rfl
    v20 := fun _ => by kernel_rfl
    t37 := by kernel_rfl
    a37 := fun _ => by kernel_rfl
    z37 := fun _ => by kernel_rfl
    v37 := fun _ => by kernel_rfl
    t70 := by kernel_rfl
    a70 := fun _ => by kernel_rfl
    z70 := fun _ => by kernel_rfl
    v70 := fun _ => by kernel_rfl
    t72 := by kernel_rfl
    a72 := fun _ => by kernel_rfl
    z72 := fun _ => by kernel_rfl
    v72 := fun _ => by kernel_rfl
    t75 := by kernel_rfl
    a75 := fun _ => by kernel_rfl
    z75 := fun _ => by kernel_rfl
    v75 := fun _ => by kernel_rfl
    t164 := by kernel_rfl
    a164 := fun _ => by kernel_rfl
    z164 := fun _ => by kernel_rfl
    v164 := fun _ => by kernel_rfl }
theorem bwsExtra : Builder.Extra Tryd.prog bwsRen :=
  { sizeBuilder := by kernel_rfl
    liesBuilder := by kernel_rfl
    t5 := by kernel_rfl
    a5 := fun _ => by kernel_rfl
    z5 := fun _ => by kernel_rfl
    v5 := fun _ => by kernel_rfl
    infoByte := by kernel_rfl
    cellsByte := by kernel_rfl
    sizeByte := by kernel_rfl
    neB5 := by decide }
theorem write_any (B b : Nat) (l : List UInt8) (s : ByteArray) (w : World) (h : Bld B b l w) (hlen : l.length + s.size ≤ 140737488355328) (hB : B ≤ w.heap.size) :
    Calls Tryd.prog 33 #[.pointer (some ⟨b, 0, none⟩), .string s] w fun e w' => e = .returned (.tuple #[.int .i64 s.size, .nilIface]) ∧ Bld B b (l ++ s.data.toList) w' ∧ Below B w w' :=
  (Any.Builder_WriteString bwsLays bwsExtra B b (Lib.byteCells l) s w h (by rw [Lib.byteCells_length]; exact hlen) hB).mono fun _ w' ⟨he, h1, hb⟩ =>
    ⟨he, by
      rw [Lib.strCells_eq, ← Lib.byteCells_append] at h1
      exact Or.inr h1, hb⟩
def bwbRen : Ren := ⟨fun | 167 => 35 | 240 => 44 | 276 => 57 | n => n, fun | 0 => 0 | 4 => 4 | 5 => 5 | 9 => 9 | 20 => 20 | 37 => 56 | 70 => 55 | 72 => 58 | 75 => 75 | 80 => 61 | 164 => 92 | n => n, fun n => n⟩
theorem bwbLays : Lays.n167 Tryd.prog bwbRen :=
  { mixed := by kernel_rfl
    f167 := by kernel_rfl
    f240 := by kernel_rfl
    f276 := by kernel_rfl
    t0 := by kernel_rfl
    a0 := fun _ => by kernel_rfl
    z0 := fun _ => by kernel_rfl
    v0 := fun _ => by kernel_rfl
    t4 := by kernel_rfl
    a4 := fun _ => by kernel_rfl
    z4 := fun _ => by kernel_rfl
    v4 := fun _ => by kernel_rfl
    t5 := by kernel_rfl
    a5 := fun _ => by kernel_rfl
    z5 := fun _ => by kernel_rfl
    v5 := fun _ => by kernel_rfl
    t9 := by kernel_rfl
    a9 := fun _ => by kernel_rfl
    z9 := fun _ => by kernel_rfl
    v9 := fun _ => by kernel_rfl
    t20 := by kernel_rfl
    a20 := fun _ => by kernel_rfl
    z20 := fun _ => by kernel_rfl
    v20 := fun _ => by kernel_rfl
    t37 := by kernel_rfl
    a37 := fun _ => by kernel_rfl
    z37 := fun _ => by kernel_rfl
    v37 := fun _ => by kernel_rfl
    t70 := by kernel_rfl
    a70 := fun _ => by kernel_rfl
    z70 := fun _ => by kernel_rfl
    v70 := fun _ => by kernel_rfl
    t72 := by kernel_rfl
    a72 := fun _ => by kernel_rfl
    z72 := fun _ => by kernel_rfl
    v72 := fun _ => by kernel_rfl
    t75 := by kernel_rfl
    a75 := fun _ => by kernel_rfl
    z75 := fun _ => by kernel_rfl
    v75 := fun _ => by kernel_rfl
    t164 := by kernel_rfl
    a164 := fun _ => by kernel_rfl
    z164 := fun _ => by kernel_rfl
    v164 := fun _ => by kernel_rfl }
theorem bwbExtra : Builder.Extra Tryd.prog bwbRen :=
  { sizeBuilder := by kernel_rfl
    liesBuilder := by kernel_rfl
    t5 := by kernel_rfl
    a5 := fun _ => by kernel_rfl
    z5 := fun _ => by kernel_rfl
    v5 := fun _ => by kernel_rfl
    infoByte := by kernel_rfl
    cellsByte := by kernel_rfl
    sizeByte := by kernel_rfl
    neB5 := by decide }
theorem byte_any (B b : Nat) (l : List UInt8) (c : UInt8) (w : World) (h : Bld B b l w) (hlen : l.length + 1 ≤ 140737488355328) (hB : B ≤ w.heap.size) :
    Calls Tryd.prog 35 #[.pointer (some ⟨b, 0, none⟩), .int .u8 (c.toNat : Int)] w fun e w' => e = .returned .nilIface ∧ Bld B b (l ++ [c]) w' ∧ Below B w w' :=
  (Any.Builder_WriteByte bwbLays bwbExtra B b (Lib.byteCells l) (c.toNat : Int) w h (by rw [Lib.byteCells_length]; exact hlen) hB).mono fun _ w' ⟨he, h1, hb⟩ =>
    ⟨he, by
      have e : Lib.byteCells (l ++ [c]) = Lib.byteCells l ++ [.int .u8 (c.toNat : Int)] := by simp [Lib.byteCells]
      rw [← e] at h1
      exact Or.inr h1, hb⟩
def bstRen : Ren := ⟨fun | 169 => 25 | n => n, fun | 0 => 0 | 3 => 3 | 5 => 5 | 9 => 9 | 37 => 56 | 70 => 55 | 72 => 58 | 127 => 80 | n => n, fun n => n⟩
theorem bstLays : Lays.n169 Tryd.prog bstRen :=
  { mixed := by kernel_rfl
    f169 := by kernel_rfl
    t0 := by kernel_rfl
    a0 := fun _ => by kernel_rfl
    z0 := fun _ => by kernel_rfl
    v0 := fun _ => by kernel_rfl
    t3 := by kernel_rfl
    a3 := fun _ => by kernel_rfl
    z3 := fun _ => by kernel_rfl
    v3 := fun _ => by kernel_rfl
    t9 := by kernel_rfl
    a9 := fun _ => by kernel_rfl
    z9 := fun _ => by kernel_rfl
    v9 := fun _ => by kernel_rfl
    t37 := by kernel_rfl
    a37 := fun _ => by kernel_rfl
    z37 := fun _ => by kernel_rfl
    v37 := fun _ => by kernel_rfl
    t70 := by kernel_rfl
    a70 := fun _ => by kernel_rfl
    z70 := fun _ => by kernel_rfl
    v70 := fun _ => by kernel_rfl
    t72 := by kernel_rfl
    a72 := fun _ => by kernel_rfl
    z72 := fun _ => by kernel_rfl
    v72 := fun _ => by kernel_rfl
    t127 := by kernel_rfl
    a127 := fun _ => by kernel_rfl
    z127 := fun _ => by kernel_rfl
    v127 := fun _ => by kernel_rfl }
theorem bstExtra : Builder.Extra Tryd.prog bstRen :=
  { sizeBuilder := by kernel_rfl
    liesBuilder := by kernel_rfl
    t5 := by kernel_rfl
    a5 := fun _ => by kernel_rfl
    z5 := fun _ => by kernel_rfl
    v5 := fun _ => by kernel_rfl
    infoByte := by kernel_rfl
    cellsByte := by kernel_rfl
    sizeByte := by kernel_rfl
    neB5 := by decide }
theorem string_any (B b : Nat) (l : List UInt8) (w : World) (h : Bld B b l w) (hB : B ≤ w.heap.size) :
    Calls Tryd.prog 25 #[.pointer (some ⟨b, 0, none⟩)] w fun e w' => e = .returned (.string (tx l)) ∧ Below B w w' :=
  Any.Builder_String_any bstLays bstExtra B b l w h hB
end Go.Proofs.YtoenilppcoifpaaDoor.Ov
/-
  Of any seat that holds strings.Builder: a builder of the call's own, through calls that make memory.
-/
namespace Go.Proofs.YtoenilppcoifpaaDoor.Ov
open Go.ChangeShapes Go.WideShapes Go.ChangeAt Go.RowKit

theorem Bld.fresh (w : World) : Bld w.heap.size w.heap.size [] (w.alloc (.cells #[.pointer none, .slice none 0 0] 58)) := Lib.fresh_isBuilder _ _ w
theorem Bld.old {B b : Nat} {l : List UInt8} {w w' : World} (h : Bld B b l w) (k : Below w.heap.size w w') : Bld B b l w' := by
  have key : ∀ p, Lib.BuilderAt 58 5 B b p (Lib.byteCells l) w → Lib.BuilderAt 58 5 B b p (Lib.byteCells l) w' := fun p h => by
    have hlt := h.lt
    obtain ⟨hB, v, hb, hown, hne⟩ := h
    refine ⟨hB, v, by rw [k.block b hlt]; exact hb, hown.kept (row := none) ⟨k.os, k.tape, k.output, k.size, fun i hi _ => k.block i hi⟩ ?_, hne⟩
    cases hv : v.ownBlock with
    | none => exact Or.inl rfl
    | some g => exact Or.inr (by simp)
  exact h.elim (fun h => Or.inl (key _ h)) (fun h => Or.inr (key _ h))
theorem Bld.cast {B b : Nat} {l l' : List UInt8} {w : World} (h : Bld B b l w) (e : l = l') : Bld B b l' w := e ▸ h
end Go.Proofs.YtoenilppcoifpaaDoor.Ov
/-
  How a text is written between quotes.
-/
namespace Go.Proofs.YtoenilppcoifpaaDoor.Va
open Go.ChangeShapes Go.WideShapes Go.ChangeAt Go.RowKit Go.Proofs.YtoenilppcoifpaaDoor.Ov

/-- The digits of sixteen. -/
def six : ByteArray := ⟨#[48, 49, 50, 51, 52, 53, 54, 55, 56, 57, 97, 98, 99, 100, 101, 102]⟩
theorem six_at : ∀ i : Fin 16, six.data[i.val]? = some (hx i.val) := by decide
theorem run_six {z : Int} (n : Nat) (h : n < 16) (hz : z = (n : Int)) (w : World) : (Instr.index 9 (.string ⟨#[48, 49, 50, 51, 52, 53, 54, 55, 56, 57, 97, 98, 99, 100, 101, 102]⟩) (.int .u8 z)).run Tryd.prog w = .ok (.int .u8 ((hx n).toNat : Int)) w := by
  subst hz
  have hs : (n : Int) < ((six.size : Nat) : Int) := by show (n : Int) < 16; omega
  refine (run_index_string w 9 six .u8 (n : Int) Tryd.underlying9).trans ?_
  rw [dif_pos ⟨by omega, hs⟩]
  have e : six[((n : Int)).toNat]'(by omega) = hx n := by
    have := six_at ⟨n, h⟩
    rw [Array.getElem?_eq_some_iff] at this
    obtain ⟨hlt, he⟩ := this
    rw [← he]
    simp only [Int.toNat_natCast]
    rfl
  rw [e]
theorem esc_take (s : ByteArray) (k : Nat) (h : k < s.size) : esc (s.data.toList.take (k + 1)) = esc (s.data.toList.take k) ++ e1 s[k] := by
  rw [take_snoc s k h, esc_append]; unfold esc; simp
set_option maxRecDepth 100000 in
set_option maxHeartbeats 1000000 in
theorem writeText_any (s : ByteArray) (w : World) (hs : s.size ≤ 4096) :
    Calls Tryd.prog 46 #[.string s] w (Gives (.string (tx (34 :: (esc s.data.toList ++ [34])))) w) := by
  go_enter Tryd.func46, Tryd.ntmps46
  go_wp2_with (fail)
  have D0 := Lib.hid (Bld.fresh w)
  have HB0 := Lib.hid (box1 w (.cells #[.pointer none, .slice none 0 0] 58))
  generalize w.alloc (.cells #[.pointer none, .slice none 0 0] 58) = w0 at *
  refine (byte_any w.heap.size w.heap.size [] 34 _ D0.out (by simp) HB0.out.size).mono ?_
  rintro e w1 ⟨rfl, hd, hb⟩
  have D1 := Lib.hid hd
  have HB1 := Lib.hid (HB0.out.trans hb)
  clear hd hb D0 HB0
  go_wp2_with (fail)
  go_loopw [8] (fun i wr => ∃ k : Nat, k ≤ s.size ∧ i = .int .i64 (k : Int) ∧ Bld w.heap.size w.heap.size (34 :: esc (s.data.toList.take k)) wr ∧ Below w.heap.size w wr) (fun i _ => s.size - (intOf i).toNat)
  case atStart => exact ⟨0, Nat.zero_le _, rfl, D1.out, HB1.out⟩
  case round =>
    obtain ⟨k, hk, rfl, hd, hb⟩ := hrel
    have D1 := Lib.hid hd; have HB1 := Lib.hid hb; clear hd hb
    have hlen : (esc (s.data.toList.take k)).length ≤ 12288 := by
      have h1 := esc_le (s.data.toList.take k)
      have h2 : (s.data.toList.take k).length ≤ k := List.length_take_le _ _
      omega
    by_cases hlt : k < s.size
    · have HS := Lib.hid (esc_take s k hlt)
      obtain ⟨c, hc⟩ : ∃ c : UInt8, s[k] = c := ⟨_, rfl⟩
      rw [hc] at HS
      have HP := Lib.hid (plain_any c)
      have hcl := c.toNat_lt
      by_cases hp : pl c = true
      · have HE : Hid (e1 c = [c]) := if_pos hp
        rw [hp] at HP; clear hp
        generalize esc (s.data.toList.take k) = l at *
        go_wp2_with (fail)
        refine (HP.out _).mono ?_
        rintro e w' ⟨rfl, rfl⟩
        go_wp2_with (fail)
        refine (byte_any w.heap.size w.heap.size _ c _ D1.out (by simp; omega) HB1.out.size).mono ?_
        rintro e w2 ⟨rfl, hd, hb⟩
        have D2 := Lib.hid hd
        have HB2 := Lib.hid (HB1.out.trans hb)
        clear hd hb D1 HB1
        go_wp2_with (fail)
        go_roundw
        case rel => exact ⟨k + 1, by omega, by go_num, D2.out.cast (by rw [HS.out, HE.out]; rfl), HB2.out⟩
        case measure => simp [intOf]; omega
      · have hp' : pl c = false := by simpa using hp
        have HE : Hid (e1 c = [92, hx (c.toNat / 16), hx (c.toNat % 16)]) := if_neg hp
        rw [hp'] at HP; clear hp hp'
        have hx1 := run_six (z := (c.toNat : Int) / 16) (c.toNat / 16) (by omega) (by omega)
        have hx2 := run_six (z := (c.toNat : Int) % 16) (c.toNat % 16) (by omega) (by omega)
        generalize esc (s.data.toList.take k) = l at *
        go_wp2_with (fail)
        refine (HP.out _).mono ?_
        rintro e w' ⟨rfl, rfl⟩
        go_wp2_with (fail)
        refine (byte_any w.heap.size w.heap.size _ 92 _ D1.out (by simp; omega) HB1.out.size).mono ?_
        rintro e w2 ⟨rfl, hd, hb⟩
        have D2 := Lib.hid hd
        have HB2 := Lib.hid (HB1.out.trans hb)
        clear hd hb D1 HB1
        go_wp2_with (fail)
        refine (byte_any w.heap.size w.heap.size _ (hx (c.toNat / 16)) _ D2.out (by simp; omega) HB2.out.size).mono ?_
        rintro e w3 ⟨rfl, hd, hb⟩
        have D3 := Lib.hid hd
        have HB3 := Lib.hid (HB2.out.trans hb)
        clear hd hb D2 HB2
        go_wp2_with (fail)
        refine (byte_any w.heap.size w.heap.size _ (hx (c.toNat % 16)) _ D3.out (by simp; omega) HB3.out.size).mono ?_
        rintro e w4 ⟨rfl, hd, hb⟩
        have D4 := Lib.hid hd
        have HB4 := Lib.hid (HB3.out.trans hb)
        clear hd hb D3 HB3
        go_wp2_with (fail)
        go_roundw
        case rel => exact ⟨k + 1, by omega, by go_num, D4.out.cast (by rw [HS.out, HE.out]; simp), HB4.out⟩
        case measure => simp [intOf]; omega
    · have HT : Hid (s.data.toList.take k = s.data.toList) := List.take_of_length_le (by simp; omega)
      rw [HT.out] at D1 hlen
      generalize esc s.data.toList = l at *
      go_wp2_with (fail)
      refine (byte_any w.heap.size w.heap.size _ 34 _ D1.out (by simp; omega) HB1.out.size).mono ?_
      rintro e w2 ⟨rfl, hd, hb⟩
      have D2 := Lib.hid hd
      have HB2 := Lib.hid (HB1.out.trans hb)
      clear hd hb D1 HB1
      go_wp2_with (fail)
      refine (string_any _ _ _ _ D2.out HB2.out.size).mono ?_
      rintro e w3 ⟨rfl, hb⟩
      have HB3 := Lib.hid (HB2.out.trans hb)
      clear hb
      go_wp2_with (fail)
      go_ret
      exact ⟨rfl, HB3.out⟩
end Go.Proofs.YtoenilppcoifpaaDoor.Va
/-
  How a value is written.
-/
namespace Go.Proofs.YtoenilppcoifpaaDoor.Va
open Go.ChangeShapes Go.WideShapes Go.ChangeAt Go.RowKit Go.Proofs.YtoenilppcoifpaaDoor.Ov Go.Proofs.YtoenilppcoifpaaDoor.Ga Go.Proofs.YtoenilppcoifpaaDoor.Tp

set_option maxHeartbeats 1000000 in
theorem write_no {k n x y : Int} {s : ByteArray} (h : rt ⟨k, n, s.data.toList, x, y⟩ = false) (w : World) : Calls Tryd.prog 34 #[.agg #[.int .i64 k, .int .i64 n, .string s, .int .i64 x, .int .i64 y]] w (Gives (.string ⟨#[]⟩) w) := by
  have HR := Lib.hid (right_val k n x y s); rw [h] at HR; clear h
  go_enter Tryd.func34, Tryd.ntmps34
  go_wp2_with (fail)
  have kb := box1 w (.cells #[.int .i64 k, .int .i64 n, .string s, .int .i64 x, .int .i64 y] 48)
  have D := Blk.made w 48 (vcs k n s x y) rfl
  change Blk (w.alloc (.cells #[.int .i64 k, .int .i64 n, .string s, .int .i64 x, .int .i64 y] 48)) w.heap.size _ at D
  generalize w.alloc (.cells #[.int .i64 k, .int .i64 n, .string s, .int .i64 x, .int .i64 y] 48) = v at *
  refine (HR.out _).mono ?_
  rintro e w1 ⟨rfl, hb⟩
  have HB := Lib.hid (Below.next kb hb)
  have D1 := Lib.hid (D.next hb)
  clear hb kb D
  have c0 := D1.out.v0; have c1 := D1.out.v1; have c2 := D1.out.v2; have c3 := D1.out.v3; have c4 := D1.out.v4
  go_wp2_with (fail)
  go_ret
  exact ⟨rfl, HB.out⟩
set_option maxHeartbeats 1000000 in
theorem write_text {n x y : Int} {s : ByteArray} (h : rt ⟨1, n, s.data.toList, x, y⟩ = true) (w : World) : Calls Tryd.prog 34 #[.agg #[.int .i64 1, .int .i64 n, .string s, .int .i64 x, .int .i64 y]] w (Gives (.string (tx (wr ⟨1, n, s.data.toList, x, y⟩))) w) := by
  have hs : s.size ≤ 4096 := by
    have := rt_yes h
    simp at this; exact this.2.1
  have HR := Lib.hid (right_val 1 n x y s); rw [h] at HR; clear h
  have HT := Lib.hid (fun w => writeText_any s w hs)
  rw [wr_text]
  generalize tx (34 :: (esc s.data.toList ++ [34])) = t at *
  go_enter Tryd.func34, Tryd.ntmps34
  go_wp2_with (fail)
  have kb := box1 w (.cells #[.int .i64 1, .int .i64 n, .string s, .int .i64 x, .int .i64 y] 48)
  have D := Blk.made w 48 (vcs 1 n s x y) rfl
  change Blk (w.alloc (.cells #[.int .i64 1, .int .i64 n, .string s, .int .i64 x, .int .i64 y] 48)) w.heap.size _ at D
  generalize w.alloc (.cells #[.int .i64 1, .int .i64 n, .string s, .int .i64 x, .int .i64 y] 48) = v at *
  refine (HR.out _).mono ?_
  rintro e w1 ⟨rfl, hb⟩
  have HB := Lib.hid (Below.next kb hb)
  have D1 := Lib.hid (D.next hb)
  clear hb kb D
  have c0 := D1.out.v0; have c1 := D1.out.v1; have c2 := D1.out.v2; have c3 := D1.out.v3; have c4 := D1.out.v4
  go_wp2_with (fail)
  clear c0 c1 c2 c3 c4
  refine (HT.out _).mono ?_
  rintro e w2 ⟨rfl, hb⟩
  have HB2 := Lib.hid (Below.next HB.out hb)
  clear hb
  go_wp2_with (fail)
  go_ret
  exact ⟨rfl, HB2.out⟩
theorem itoa_le (n : Int) (h : -9007199254740992 ≤ n ∧ n ≤ 9007199254740992) : (tx (Lib.itoa n)).size ≤ 21 := by
  rw [tx_size]; exact Lib.itoa_length_le n (by omega) (by omega)
set_option maxHeartbeats 1000000 in
theorem write_int {n x y : Int} {s : ByteArray} (h : rt ⟨0, n, s.data.toList, x, y⟩ = true) (w : World) (ht : Tab w) : Calls Tryd.prog 34 #[.agg #[.int .i64 0, .int .i64 n, .string s, .int .i64 x, .int .i64 y]] w (Gives (.string (tx (wr ⟨0, n, s.data.toList, x, y⟩))) w) := by
  have hr : -9007199254740992 ≤ n ∧ n ≤ 9007199254740992 := by
    rw [rt_int, Bool.and_eq_true, Bool.and_eq_true, decide_eq_true_eq, decide_eq_true_eq] at h; exact h.2
  have HR := Lib.hid (right_val 0 n x y s); rw [h] at HR; clear h
  have HT := Lib.hid ht; clear ht
  have HI := Lib.hid (itoa_any n (by omega) (by omega))
  clear hr
  rw [wr_int]
  generalize tx (Lib.itoa n) = t at *
  go_enter Tryd.func34, Tryd.ntmps34
  go_wp2_with (fail)
  have kb := box1 w (.cells #[.int .i64 0, .int .i64 n, .string s, .int .i64 x, .int .i64 y] 48)
  have D := Blk.made w 48 (vcs 0 n s x y) rfl
  change Blk (w.alloc (.cells #[.int .i64 0, .int .i64 n, .string s, .int .i64 x, .int .i64 y] 48)) w.heap.size _ at D
  generalize w.alloc (.cells #[.int .i64 0, .int .i64 n, .string s, .int .i64 x, .int .i64 y] 48) = v at *
  refine (HR.out _).mono ?_
  rintro e w1 ⟨rfl, hb⟩
  have HB := Lib.hid (Below.next kb hb)
  have D1 := Lib.hid (D.next hb)
  clear hb kb D
  have c0 := D1.out.v0; have c1 := D1.out.v1; have c2 := D1.out.v2; have c3 := D1.out.v3; have c4 := D1.out.v4
  go_wp2_with (fail)
  clear c0 c1 c2 c3 c4
  refine (HI.out _ (HT.out.next HB.out)).mono ?_
  rintro e w2 ⟨rfl, hb⟩
  have HB2 := Lib.hid (Below.next HB.out hb)
  clear hb
  go_wp2_with (fail)
  go_ret
  exact ⟨rfl, HB2.out⟩
set_option maxHeartbeats 1000000 in
theorem write_point {n x y : Int} {s : ByteArray} (h : rt ⟨2, n, s.data.toList, x, y⟩ = true) (w : World) (ht : Tab w) : Calls Tryd.prog 34 #[.agg #[.int .i64 2, .int .i64 n, .string s, .int .i64 x, .int .i64 y]] w (Gives (.string (tx (wr ⟨2, n, s.data.toList, x, y⟩))) w) := by
  have hr := rb_xy (by rw [rt_point, Bool.and_eq_true] at h; exact h.2 : rb ⟨x, y⟩ = true)
  have HR := Lib.hid (right_val 2 n x y s); rw [h] at HR; clear h
  have HT := Lib.hid ht; clear ht
  have HA := Lib.hid (itoa_any x (by omega) (by omega))
  have HC := Lib.hid (itoa_any y (by omega) (by omega))
  have z2 := itoa_le x (by omega)
  have z3 := itoa_le y (by omega)
  clear hr
  have HE : Hid (tx (Lib.itoa x) ++ ⟨#[58]⟩ ++ tx (Lib.itoa y) = tx (wr ⟨2, n, s.data.toList, x, y⟩)) := by
    show _ = _
    rw [wr_point, show (⟨#[58]⟩ : ByteArray) = tx [58] from rfl, tx_append, tx_append]
  generalize tx (Lib.itoa x) = a at *
  generalize tx (Lib.itoa y) = b at *
  have g1 : ¬ a.size + 1 > 9223372036854775807 := by omega
  have g2 : ¬ a.size + 1 + b.size > 9223372036854775807 := by omega
  clear z2 z3
  go_enter Tryd.func34, Tryd.ntmps34
  go_wp2_with (fail)
  have kb := box1 w (.cells #[.int .i64 2, .int .i64 n, .string s, .int .i64 x, .int .i64 y] 48)
  have D := Blk.made w 48 (vcs 2 n s x y) rfl
  change Blk (w.alloc (.cells #[.int .i64 2, .int .i64 n, .string s, .int .i64 x, .int .i64 y] 48)) w.heap.size _ at D
  generalize w.alloc (.cells #[.int .i64 2, .int .i64 n, .string s, .int .i64 x, .int .i64 y] 48) = v at *
  refine (HR.out _).mono ?_
  rintro e w1 ⟨rfl, hb⟩
  have HB := Lib.hid (Below.next kb hb)
  have D1 := Lib.hid (D.next hb)
  clear hb kb D
  have c0 := D1.out.v0; have c1 := D1.out.v1; have c2 := D1.out.v2; have c3 := D1.out.v3; have c4 := D1.out.v4
  go_wp2_with (fail)
  clear c0 c1 c2 c3 c4
  have KA := Lib.hid (fun q : Over w1 => HA.out q.val ((HT.out.next HB.out).next q.property))
  have KC := Lib.hid (fun q : Over w1 => HC.out q.val ((HT.out.next HB.out).next q.property))
  have D2 := D1.out
  have k3 := fun r : Over w1 => (D2.over r).v3
  have k4 := fun r : Over w1 => (D2.over r).v4
  clear D2
  refine wp_over (by kernel_rfl) (by kernel_rfl) ?_
  repeat (go_big_quiet_step (first | fail | with_reducible exact over_gives _ (KA.out _) | with_reducible exact over_gives _ (KC.out _)))
  refine wpQuiet_nil ?_
  rintro w3 ⟨⟨w3, hb⟩, rfl⟩
  have HB3 := Lib.hid (Below.next HB.out hb)
  clear hb k3 k4
  go_wp2_with (fail)
  go_ret
  exact ⟨ret_str HE.out, HB3.out⟩
theorem write_yes {k n x y : Int} {s : ByteArray} (h : rt ⟨k, n, s.data.toList, x, y⟩ = true) (w : World) (ht : Tab w) : Calls Tryd.prog 34 #[.agg #[.int .i64 k, .int .i64 n, .string s, .int .i64 x, .int .i64 y]] w (Gives (.string (tx (wr ⟨k, n, s.data.toList, x, y⟩))) w) := by
  by_cases h0 : k = 0
  · subst h0; exact write_int h w ht
  by_cases h1 : k = 1
  · subst h1; exact write_text h w
  by_cases h2 : k = 2
  · subst h2; exact write_point h w ht
  rw [rt_kind n x y _ h0 h1 h2] at h; cases h
end Go.Proofs.YtoenilppcoifpaaDoor.Va
/-
  Of any seat that holds strings.Builder: WriteString, WriteByte, String, Len, by the shelf's forms that keep what lies above the builder (laid in plain words; written by gen_lay.py).
-/
namespace Go.Proofs.YtoenilppcoifpaaDoor.Ov
open Go.ChangeShapes Go.WideShapes Go.ChangeAt Go.RowKit Go.Shelf

/-- A builder of the call's own in block b, in which the bytes l lie. -/
def BldF (B b : Nat) (l : List UInt8) (w : World) : Prop := Lib.IsBuilderF 58 5 B b (Lib.byteCells l) w
/-- Every block that isn't the builder's and no row of bytes stands as it stood. -/
def Kept (b : Nat) (w w' : World) : Prop := Lib.OthersKept 5 (some b) w w'
theorem writeK_any (B b : Nat) (l : List UInt8) (s : ByteArray) (w : World) (h : BldF B b l w) (hlen : l.length + s.size ≤ 140737488355328) (hB : B ≤ w.heap.size) :
    Calls Tryd.prog 33 #[.pointer (some ⟨b, 0, none⟩), .string s] w fun e w' => e = .returned (.tuple #[.int .i64 s.size, .nilIface]) ∧ BldF B b (l ++ s.data.toList) w' ∧ Below B w w' ∧ Kept b w w' :=
  (Any.Builder_WriteString_k bwsLays bwsExtra B b (Lib.byteCells l) s w h (by rw [Lib.byteCells_length]; exact hlen) hB).mono fun _ w' ⟨he, h1, hb, hk⟩ =>
    ⟨he, by
      rw [Lib.strCells_eq, ← Lib.byteCells_append] at h1
      exact Or.inr h1, hb, hk⟩
theorem byteK_any (B b : Nat) (l : List UInt8) (c : UInt8) (w : World) (h : BldF B b l w) (hlen : l.length + 1 ≤ 140737488355328) (hB : B ≤ w.heap.size) :
    Calls Tryd.prog 35 #[.pointer (some ⟨b, 0, none⟩), .int .u8 (c.toNat : Int)] w fun e w' => e = .returned .nilIface ∧ BldF B b (l ++ [c]) w' ∧ Below B w w' ∧ Kept b w w' :=
  (Any.Builder_WriteByte_k bwbLays bwbExtra B b (Lib.byteCells l) (c.toNat : Int) w h (by rw [Lib.byteCells_length]; exact hlen) hB).mono fun _ w' ⟨he, h1, hb, hk⟩ =>
    ⟨he, by
      have e : Lib.byteCells (l ++ [c]) = Lib.byteCells l ++ [.int .u8 (c.toNat : Int)] := by simp [Lib.byteCells]
      rw [← e] at h1
      exact Or.inr h1, hb, hk⟩
theorem stringK_any (B b : Nat) (l : List UInt8) (w : World) (h : BldF B b l w) (hB : B ≤ w.heap.size) :
    Calls Tryd.prog 25 #[.pointer (some ⟨b, 0, none⟩)] w fun e w' => e = .returned (.string (tx l)) ∧ BldF B b l w' ∧ Below B w w' ∧ Kept b w w' :=
  (Any.Builder_String_any_k bstLays bstExtra B b l w h hB).mono fun _ _ ⟨he, h1, hb, hk⟩ => ⟨he, h1, hb, hk⟩
def blnRen : Ren := ⟨fun | 170 => 24 | n => n, fun | 0 => 0 | 3 => 3 | 5 => 5 | 37 => 56 | 70 => 55 | 72 => 58 | n => n, fun n => n⟩
theorem blnLays : Lays.n170 Tryd.prog blnRen :=
  { mixed := by kernel_rfl
    f170 := by kernel_rfl
    t0 := by kernel_rfl
    a0 := fun _ => by kernel_rfl
    z0 := fun _ => by kernel_rfl
    v0 := fun _ => by kernel_rfl
    t3 := by kernel_rfl
    a3 := fun _ => by kernel_rfl
    z3 := fun _ => by kernel_rfl
    v3 := fun _ => by kernel_rfl
    t37 := by kernel_rfl
    a37 := fun _ => by kernel_rfl
    z37 := fun _ => by kernel_rfl
    v37 := fun _ => by kernel_rfl
    t70 := by kernel_rfl
    a70 := fun _ => by kernel_rfl
    z70 := fun _ => by kernel_rfl
    v70 := fun _ => by kernel_rfl
    t72 := by kernel_rfl
    a72 := fun _ => by kernel_rfl
    z72 := fun _ => by kernel_rfl
    v72 := fun _ => by kernel_rfl }
theorem lenK_any (B b : Nat) (l : List UInt8) (w : World) (h : BldF B b l w) :
    Calls Tryd.prog 24 #[.pointer (some ⟨b, 0, none⟩)] w fun e w' => e = .returned (.int .i64 l.length) ∧ w = w' :=
  (Any.Builder_Len_f blnLays B b (Lib.byteCells l) w h).mono fun _ w' ⟨he, hw⟩ => ⟨by rw [he, Lib.byteCells_length], hw.symm⟩
theorem BldF.fresh (w : World) : BldF w.heap.size w.heap.size [] (w.alloc (.cells #[.pointer none, .slice none 0 0] 58)) := Lib.IsBuilderF.of (Lib.fresh_isBuilder _ _ w)
theorem BldF.old {B b : Nat} {l : List UInt8} {w w' : World} (h : BldF B b l w) (k : Below w.heap.size w w') : BldF B b l w' := by
  have key : ∀ p, Lib.BuilderAtF 58 5 B b p (Lib.byteCells l) w → Lib.BuilderAtF 58 5 B b p (Lib.byteCells l) w' := fun p h => by
    have hlt := h.lt
    obtain ⟨hB, v, hb, hown, hne⟩ := h
    refine ⟨hB, v, by rw [k.block b hlt]; exact hb, hown.kept (row := none) ⟨k.os, k.tape, k.output, k.size, fun i hi _ => k.block i hi⟩ ?_, hne⟩
    cases hv : v.ownBlock with
    | none => exact Or.inl rfl
    | some g => exact Or.inr (by simp)
  exact h.elim (fun h => Or.inl (key _ h)) (fun h => Or.inr (key _ h))
theorem BldF.cast {B b : Nat} {l l' : List UInt8} {w : World} (h : BldF B b l w) (e : l = l') : BldF B b l' w := e ▸ h
theorem BldF.lt {B b : Nat} {l : List UInt8} {w : World} (h : BldF B b l w) : b < w.heap.size := h.elim (fun h => h.lt) (fun h => h.lt)
theorem BldF.lo {B b : Nat} {l : List UInt8} {w : World} (h : BldF B b l w) : B ≤ b := h.elim (fun h => h.1) (fun h => h.1)
theorem Kept.refl (b : Nat) (w : World) : Kept b w w := Lib.OthersKept.refl _ _ _
theorem Kept.trans {b : Nat} {w w1 w2 : World} (h : Kept b w w1) (k : Kept b w1 w2) : Kept b w w2 := Lib.OthersKept.trans h k
theorem Kept.of_below {b : Nat} {w w' : World} (k : Below w.heap.size w w') : Kept b w w' := fun i o hi _ _ => by
  rw [k.block i (Array.getElem?_eq_some_iff.1 hi).1]; exact hi
end Go.Proofs.YtoenilppcoifpaaDoor.Ov
/-
  How an expression is written: writeFirst, Write.
-/
namespace Go.Proofs.YtoenilppcoifpaaDoor.Ex
open Go.ChangeShapes Go.WideShapes Go.ChangeAt Go.RowKit Go.Proofs.YtoenilppcoifpaaDoor.Ov Go.Proofs.YtoenilppcoifpaaDoor.Va

/-- The tables lie below B. -/
structure Lo (w : World) (B : Nat) : Prop where
  kn : KN w
  tab : Tab w
  k : 0 < B
  n : 1 < B
  t : 2 < B
  le : B ≤ w.heap.size
theorem Lo.below {w w' : World} {B : Nat} (h : Lo w B) (k : Below B w w') : Lo w' B :=
  ⟨⟨fun i hi => (k.cell (p := ⟨0, 2 * i, none⟩) h.k).trans (h.kn.word i hi), fun i hi => (k.cell (p := ⟨0, 2 * i + 1, none⟩) h.k).trans (h.kn.parts i hi),
    fun i hi => (k.cell (p := ⟨1, i, none⟩) h.n).trans (h.kn.name i hi)⟩, by
    have e : w'.var? Tryd.prog "internal/strconv.uint64pow10" = w.var? Tryd.prog "internal/strconv.uint64pow10" := by
      unfold World.var?
      rw [tab_global]
      simp only [Option.bind_some]
      rw [k.block _ h.t]
    exact e.trans h.tab, h.k, h.n, h.t, Nat.le_trans h.le k.size⟩
theorem Lo.start {w : World} (hk : KN w) (ht : Tab w) : Lo w w.heap.size := ⟨hk, ht, hk.lt.1, hk.lt.2, ht.lt, Nat.le_refl _⟩
/-- What writeFirst leaves. -/
def WF (r : List No) (t : List UInt8) (B b : Nat) (w : World) (e : Ending) (w' : World) : Prop :=
  ∃ A c, e = .returned (.slice A r.length c) ∧ Nds w' A r ∧ (∀ a, A = some a → a.block < B) ∧ r.length ≤ c ∧ BldF B b t w' ∧ Below B w w' ∧ Kept b w w'
/-- The node's box, through calls that keep it. -/
def Bx (w : World) (c : Nat) (n : No) : Prop := w.heap[c]? = some (.cells #[.int .i64 n.o, .int .i64 n.v.k, .int .i64 n.v.n, .string (tx n.v.s), .int .i64 n.v.x, .int .i64 n.v.y] 53 (0, 0))
section
variable {w w' : World} {b c : Nat} {n : No}
theorem Bx.kept (h : Bx w c n) (k : Kept b w w') (hne : c ≠ b) : Bx w' c n := k c _ h (fun e => hne (Option.some.inj e)) (fun cs fz e => by injection e with _ e2; exact absurd e2 (by decide))
theorem Bx.old (h : Bx w c n) (k : Below w.heap.size w w') : Bx w' c n := by
  have hlt := (Array.getElem?_eq_some_iff.1 h).1
  exact (k.block c hlt).trans h
theorem Bx.cell (h : Bx w c n) (j : Nat) (v : Value) (hv : (ncl n)[j]? = some v) : w.cell? ⟨c, j, none⟩ = some v := by
  rw [Lib.cell_of_heap h]
  exact (List.getElem?_toArray).trans hv
end
/-- A node's box, of which its kind alone is read. -/
def Bx0 (w : World) (c : Nat) (o : Int) : Prop := ∃ cs, w.heap[c]? = some (.cells cs 53 (0, 0)) ∧ cs[0]? = some (.int .i64 o)
section
variable {w w' : World} {b c : Nat} {o : Int}
theorem Bx0.kept (h : Bx0 w c o) (k : Kept b w w') (hne : c ≠ b) : Bx0 w' c o := by
  obtain ⟨cs, h1, h2⟩ := h
  exact ⟨cs, k c _ h1 (fun e => hne (Option.some.inj e)) (fun cs fz e => by injection e with _ e2; exact absurd e2 (by decide)), h2⟩
theorem Bx0.cell (h : Bx0 w c o) : w.cell? ⟨c, 0, none⟩ = some (.int .i64 o) := by
  obtain ⟨cs, h1, h2⟩ := h
  rw [Lib.cell_of_heap h1, h2]
end
/-- The loop over a node's parts: so far dn is written, R is left. -/
structure RW (w : World) (d p : Nat) (r : List No) (full : List UInt8) (B b : Nat) (j : Nat) (R : List No) (AR : Option Addr) (cR : Nat) (dn : List UInt8) (wr : World) : Prop where
  jp : j ≤ p
  it : it (ex d) (p - j) R = some r
  nds : Nds wr AR R
  lo : ∀ a, AR = some a → a.block < B
  cap : R.length ≤ cR
  txt : dn ++ ts (wt d) (ex d) (p - j) R = full
  len : dn.length + 12300 * R.length + (d + 1) ≤ 1000000000
  bld : BldF B b dn wr
  tab : Lo wr B
  below : Below B w wr
  kept : Kept b w wr
set_option maxRecDepth 100000 in
set_option maxHeartbeats 4000000 in
theorem first_any : ∀ (d : Nat) (l r : List No) (A : Option Addr) (c B b : Nat) (t : List UInt8) (w : World), ex d l = some r → Nds w A l → (∀ a, A = some a → a.block < B) → l.length ≤ c → Lo w B → BldF B b t w → t.length + 12300 * l.length + d ≤ 1000000000 →
    Calls Tryd.prog 23 #[.pointer (some ⟨b, 0, none⟩), .slice A l.length c] w (WF r (t ++ wt d l) B b w)
  | 0, _, _, _, _, _, _, _, _, h, _, _, _, _, _, _ => by cases h
  | d + 1, l, r, A, c, B, b, t, w, h, hn, hA, hc, hlo, hbl, hlen => by
    have ih := first_any d
    cases l with
    | nil => cases h
    | cons n l =>
      obtain ⟨G, O, rfl⟩ := hn.shape (by simp)
      have e0 := hn.cell (i := 0) (by simp) 0 _ rfl
      have e1 := hn.cell (i := 0) (by simp) 1 _ rfl
      have e2 := hn.cell (i := 0) (by simp) 2 _ rfl
      have e3 := hn.cell (i := 0) (by simp) 3 _ rfl
      have e4 := hn.cell (i := 0) (by simp) 4 _ rfl
      have e5 := hn.cell (i := 0) (by simp) 5 _ rfl
      rw [show nd (n :: l) 0 = n from rfl] at e0 e1 e2 e3 e4 e5
      rw [Nat.zero_mul, Nat.add_zero] at e0 e1 e2 e3 e4 e5
      rw [ex_cons] at h
      have hrn : rn n = true := by
        rcases Bool.eq_false_or_eq_true (rn n) with hr | hr
        · exact hr
        · rw [hr] at h; cases h
      rw [if_pos hrn] at h
      have hGB : G < B := hA _ rfl
      obtain ⟨A', hA'⟩ : ∃ A', (if c = 1 then some ⟨G, O, none⟩ else some ⟨G, O + 6, none⟩ : Option Addr) = A' := ⟨_, rfl⟩
      have HA2 : Hid ((∀ a, A' = some a → a.block < B) ∧ Nds w A' l) := by
        show _ ∧ _
        rw [List.length_cons] at hc
        by_cases hc1 : c = 1
        · rw [if_pos hc1] at hA'
          subst hA'
          have : l = [] := List.eq_nil_of_length_eq_zero (by omega)
          subst this
          exact ⟨fun a e => by rw [← Option.some.inj e]; exact hGB, Nds.nil _ _⟩
        · rw [if_neg hc1] at hA'
          subst hA'
          refine ⟨fun a e => by rw [← Option.some.inj e]; exact hGB, ?_⟩
          have := hn.drop 1
          rw [Nat.one_mul] at this
          exact this
      have HLO := Lib.hid hlo; have HBL := Lib.hid hbl; have HX := Lib.hid h; have HI := Lib.hid ih
      clear hn hA hlo hbl h ih
      rw [List.length_cons] at hlen hc ⊢
      have hGlt : G < w.heap.size := block_lt_of_cell e0
      have hG1 : ¬ G = w.heap.size := by omega
      have hG2 : ¬ w.heap.size = G := by omega
      have hl1 : (1 : Int) ≤ (l.length : Int) + 1 := by omega
      have HWT : Hid (wt (d + 1) (n :: l) = if n.o = 0 then wr n.v else if n.o = 1 then nm n.v.n else 40 :: (wd n.o ++ (ts (wt d) (ex d) (pa n.o) l ++ [41]))) := wt_cons d n l
      have HRN := Lib.hid (rn_cases hrn)
      clear hrn
      generalize wt (d + 1) (n :: l) = T at *
      obtain ⟨o, v⟩ := n
      dsimp only at *
      have hcl : l.length ≤ c - 1 := by omega
      by_cases h0 : o = 0
      · subst h0
        have HR : Hid (r = l ∧ T = wr v ∧ rt v = true) := by
          show _ ∧ _ ∧ _
          refine ⟨?_, HWT.out.trans (if_pos rfl), ?_⟩
          · have := HX.out
            rw [show pa 0 = 0 from rfl, it_zero] at this
            exact (Option.some.inj this).symm
          · rcases HRN.out with ⟨_, h⟩ | ⟨h, _⟩ | ⟨h, _⟩
            · exact h
            · cases h
            · exact absurd h.1 (by decide)
        obtain rfl := HR.out.1
        have HWV : Hid (∀ w, Tab w → Calls Tryd.prog 34 #[.agg #[.int .i64 v.k, .int .i64 v.n, .string (tx v.s), .int .i64 v.x, .int .i64 v.y]] w (Gives (.string (tx (wr v))) w)) := fun w ht => by
          have h := write_yes (k := v.k) (n := v.n) (x := v.x) (y := v.y) (s := tx v.s) (by rw [tx_list]; exact HR.out.2.2) w ht
          rw [tx_list] at h
          exact h
        have hwl : (tx (wr v)).size ≤ 12290 := by rw [tx_size]; exact wr_le HR.out.2.2
        have HTX : Hid (t ++ (tx (wr v)).data.toList = t ++ T) := by show _ = _; rw [tx_list, HR.out.2.1]
        clear HX HRN HWT HI HR
        generalize tx (wr v) = s at *
        go_enter Tryd.func23, Tryd.ntmps23
        go_wp2_with (fail)
        go_region
        have hb1 : Below w.heap.size w ((w.alloc (.cells #[.int .i64 0, .int .i64 v.k, .int .i64 v.n, .string (tx v.s), .int .i64 v.x, .int .i64 v.y] 53)).drew) := below_drewN (box1 w _) 1
        have hx1 : Bx ((w.alloc (.cells #[.int .i64 0, .int .i64 v.k, .int .i64 v.n, .string (tx v.s), .int .i64 v.x, .int .i64 v.y] 53)).drew) w.heap.size ⟨0, v⟩ := heap_alloc_new w _
        generalize (w.alloc (.cells #[.int .i64 0, .int .i64 v.k, .int .i64 v.n, .string (tx v.s), .int .i64 v.x, .int .i64 v.y] 53)).drew = w1 at *
        have HB1 := Lib.hid hb1
        have HLO1 := Lib.hid (HLO.out.below (hb1.mono HLO.out.le))
        have c0 := hx1.cell 0 _ rfl
        have c1 := hx1.cell 1 _ rfl
        have c2 := hx1.cell 2 _ rfl
        have c3 := hx1.cell 3 _ rfl
        have c4 := hx1.cell 4 _ rfl
        have c5 := hx1.cell 5 _ rfl
        clear hb1 hx1 e0 e1 e2 e3 e4 e5
        go_wp2_with (fail)
        refine (HWV.out _ HLO1.out.tab).mono ?_
        rintro e w2 ⟨rfl, hb2⟩
        have HB2 := Lib.hid (Below.next HB1.out hb2)
        have HBL2 := Lib.hid (HBL.out.old HB2.out)
        have hB2 : B ≤ w2.heap.size := Nat.le_trans HLO.out.le HB2.out.size
        clear hb2 c0 c1 c2 c3 c4 c5
        go_wp2_with (fail)
        refine (writeK_any B b t s _ HBL2.out (by omega) hB2).mono ?_
        rintro e w3 ⟨rfl, hbl3, hb3, hk3⟩
        have HBL3 := Lib.hid (hbl3.cast HTX.out)
        have HB3 := Lib.hid ((HB2.out.mono HLO.out.le).trans hb3)
        have HK3 := Lib.hid ((Kept.of_below HB2.out).trans hk3)
        clear hbl3 hb3 hk3
        go_wp2_with (fail)
        go_ret
        exact ⟨A', c - 1, rfl, HA2.out.2.below HA2.out.1 HB3.out, HA2.out.1, hcl, HBL3.out, HB3.out, HK3.out⟩
      by_cases h1 : o = 1
      · subst h1
        obtain ⟨vk, vn, vs, vx, vy⟩ := v
        dsimp only at *
        have hv5 : 0 ≤ vn ∧ vn < 5 := by
          rcases HRN.out with ⟨h, _⟩ | ⟨_, _, h⟩ | ⟨h, _⟩
          · cases h
          · exact h
          · exact absurd h.1 (by decide)
        obtain ⟨i, rfl⟩ : ∃ i : Nat, vn = (i : Int) := ⟨vn.toNat, by omega⟩
        have hi : i < 5 := by omega
        have HR : Hid (r = l ∧ T = nm (i : Int)) := by
          show _ ∧ _
          refine ⟨?_, HWT.out.trans ((if_neg (by decide)).trans (if_pos rfl))⟩
          have := HX.out
          rw [show pa 1 = 0 from rfl, it_zero] at this
          exact (Option.some.inj this).symm
        obtain rfl := HR.out.1
        have hwl : (tx nml[i]!).size ≤ 3 := by rw [tx_size, ← nm_at hi]; exact (nm_in hv5).2
        have HTX : Hid (t ++ (tx nml[i]!).data.toList = t ++ T) := by show _ = _; rw [tx_list, HR.out.2, nm_at hi]
        have HNM : Hid (∀ w, KN w → w.cell? ⟨1, i, none⟩ = some (.string (tx nml[i]!))) := fun w h => h.name i hi
        clear HX HRN HWT HI HR h0
        generalize tx nml[i]! = sn at *
        generalize tx vs = s at *
        go_enter Tryd.func23, Tryd.ntmps23
        go_wp2_with (fail)
        go_region
        have hb1 : Below w.heap.size w ((w.alloc (.cells #[.int .i64 1, .int .i64 vk, .int .i64 (i : Int), .string s, .int .i64 vx, .int .i64 vy] 53)).drew) := below_drewN (box1 w _) 1
        have c2 : ((w.alloc (.cells #[.int .i64 1, .int .i64 vk, .int .i64 (i : Int), .string s, .int .i64 vx, .int .i64 vy] 53)).drew).cell? ⟨w.heap.size, 2, none⟩ = some (.int .i64 (i : Int)) := (Blk.made w 53 [.int .i64 1, .int .i64 vk, .int .i64 (i : Int), .string s, .int .i64 vx, .int .i64 vy] rfl).c 2 _ rfl
        have c0 : ((w.alloc (.cells #[.int .i64 1, .int .i64 vk, .int .i64 (i : Int), .string s, .int .i64 vx, .int .i64 vy] 53)).drew).cell? ⟨w.heap.size, 0, none⟩ = some (.int .i64 1) := (Blk.made w 53 [.int .i64 1, .int .i64 vk, .int .i64 (i : Int), .string s, .int .i64 vx, .int .i64 vy] rfl).c 0 _ rfl
        generalize (w.alloc (.cells #[.int .i64 1, .int .i64 vk, .int .i64 (i : Int), .string s, .int .i64 vx, .int .i64 vy] 53)).drew = w1 at *
        have HB1 := Lib.hid hb1
        have HLO1 := Lib.hid (HLO.out.below (hb1.mono HLO.out.le))
        have HBL1 := Lib.hid (HBL.out.old hb1)
        have hB1 : B ≤ w1.heap.size := Nat.le_trans HLO.out.le hb1.size
        have cN := HNM.out w1 HLO1.out.kn
        clear hb1 e0 e1 e2 e3 e4 e5
        go_wp2_with (fail)
        refine (writeK_any B b t sn _ HBL1.out (by omega) hB1).mono ?_
        rintro e w3 ⟨rfl, hbl3, hb3, hk3⟩
        have HBL3 := Lib.hid (hbl3.cast HTX.out)
        have HB3 := Lib.hid ((HB1.out.mono HLO.out.le).trans hb3)
        have HK3 := Lib.hid ((Kept.of_below HB1.out).trans hk3)
        clear hbl3 hb3 hk3 c0 c2 cN
        go_wp2_with (fail)
        go_ret
        exact ⟨A', c - 1, rfl, HA2.out.2.below HA2.out.1 HB3.out, HA2.out.1, hcl, HBL3.out, HB3.out, HK3.out⟩
      · have ho : 2 ≤ o ∧ o ≤ 29 := by
          rcases HRN.out with ⟨h, _⟩ | ⟨h, _⟩ | ⟨h, _⟩
          · exact absurd h h0
          · exact absurd h h1
          · exact h
        obtain ⟨i, rfl⟩ : ∃ i : Nat, o = (i : Int) := ⟨o.toNat, by omega⟩
        have hi : i < 30 := by omega
        have hk5 := (kind_in ho).2.2
        have g0 : ((i : Int) == 0) = false := beq_eq_false_iff_ne.2 h0
        have g1 : ((i : Int) == 1) = false := beq_eq_false_iff_ne.2 h1
        have HT : Hid (T = 40 :: (wdl[i]! ++ (ts (wt d) (ex d) ptl[i]! l ++ [41]))) := by
          show _ = _
          rw [HWT.out, if_neg h0, if_neg h1, wd_at hi, pa_at hi]
        have HX1 : Hid (it (ex d) ptl[i]! l = some r) := by show _ = _; rw [← pa_at hi]; exact HX.out
        have hwl : (tx wdl[i]!).size ≤ 5 := by rw [tx_size, ← wd_at hi]; exact hk5
        have hp3 : ptl[i]! ≤ 3 := by rw [← pa_at hi]; exact pa_le _
        have HKK : Hid (∀ w, KN w → w.cell? ⟨0, i * 2, none⟩ = some (.string (tx wdl[i]!)) ∧ w.cell? ⟨0, i * 2 + 1, none⟩ = some (.int .i64 ((ptl[i]! : Nat) : Int))) := fun w h => by
          have a := h.word i hi
          have b := h.parts i hi
          rw [Nat.mul_comm] at a b
          exact ⟨a, b⟩
        have HSN : Hid ((tx wdl[i]!).data.toList = wdl[i]!) := tx_list _
        have hwl2 : (wdl[i]!).length ≤ 5 := by rw [← wd_at hi]; exact hk5
        clear HX HRN HWT h0 h1 ho hk5
        generalize wdl[i]! = wl at *
        generalize ptl[i]! = p at *
        generalize tx wl = sn at *
        generalize tx v.s = s at *
        generalize v.k = vk at *
        generalize v.n = vn at *
        generalize v.x = vx at *
        generalize v.y = vy at *
        go_enter Tryd.func23, Tryd.ntmps23
        go_wp2_with (fail)
        go_region
        have hb1 : Below w.heap.size w ((w.alloc (.cells #[.int .i64 (i : Int), .int .i64 vk, .int .i64 vn, .string s, .int .i64 vx, .int .i64 vy] 53)).drew) := below_drewN (box1 w _) 1
        have hx1 : Bx0 ((w.alloc (.cells #[.int .i64 (i : Int), .int .i64 vk, .int .i64 vn, .string s, .int .i64 vx, .int .i64 vy] 53)).drew) w.heap.size (i : Int) := ⟨_, heap_alloc_new w _, rfl⟩
        generalize (w.alloc (.cells #[.int .i64 (i : Int), .int .i64 vk, .int .i64 vn, .string s, .int .i64 vx, .int .i64 vy] 53)).drew = w1 at *
        have HBX1 := Lib.hid hx1
        have HB1 := Lib.hid (hb1.mono HLO.out.le)
        have HKP1 := Lib.hid (Kept.of_below (b := b) hb1)
        have HLO1 := Lib.hid (HLO.out.below HB1.out)
        have HBL1 := Lib.hid (HBL.out.old hb1)
        have hbx : w.heap.size ≠ b := by have := HBL.out.lt; omega
        have HNE := Lib.hid hbx
        have c0 := hx1.cell
        have HBY : Hid (∀ (q : UInt8) (z : Int), (q.toNat : Int) = z → ∀ l w, BldF B b l w → l.length + 1 ≤ 140737488355328 → B ≤ w.heap.size → Calls Tryd.prog 35 #[.pointer (some ⟨b, 0, none⟩), .int .u8 z] w fun e w' => e = .returned .nilIface ∧ BldF B b (l ++ [q]) w' ∧ Below B w w' ∧ Kept b w w') :=
          fun q z hz l w h1 h2 h3 => by subst hz; exact byteK_any B b l q w h1 h2 h3
        clear hb1 hx1 e0 e1 e2 e3 e4 e5 hbx HBL HLO
        generalize w.heap.size = bx at *
        go_wp2_with (fail)
        refine (HBY.out 40 40 rfl t _ HBL1.out (by omega) HLO1.out.le).mono ?_
        rintro e w2 ⟨rfl, hbl, hb, hk⟩
        have HBL2 := Lib.hid hbl
        have HB2 := Lib.hid (HB1.out.trans hb)
        have HKP2 := Lib.hid (HKP1.out.trans hk)
        have HBX2 := Lib.hid (HBX1.out.kept hk HNE.out)
        have HLO2 := Lib.hid (HLO1.out.below hb)
        clear hbl hb hk c0 HB1 HKP1 HBX1 HLO1 HBL1
        have c0 := HBX2.out.cell
        have ck := (HKK.out _ HLO2.out.kn).1
        go_wp2_with (fail)
        refine (writeK_any B b (t ++ [40]) sn _ HBL2.out (by simp; omega) HLO2.out.le).mono ?_
        rintro e w3 ⟨rfl, hbl, hb, hk⟩
        have HBL3 := Lib.hid (hbl.cast (show t ++ [40] ++ sn.data.toList = t ++ 40 :: wl by rw [HSN.out]; simp))
        have HB3 := Lib.hid (HB2.out.trans hb)
        have HKP3 := Lib.hid (HKP2.out.trans hk)
        have HBX3 := Lib.hid (HBX2.out.kept hk HNE.out)
        have HLO3 := Lib.hid (HLO2.out.below hb)
        clear hbl hb hk c0 ck HB2 HKP2 HBX2 HLO2 HBL2
        have c0 := HBX3.out.cell
        have ck := (HKK.out _ HLO3.out.kn).2
        go_wp2_with (fail)
        clear c0 ck
        have HFULL : Hid (∀ dn, dn = t ++ 40 :: (wl ++ ts (wt d) (ex d) p l) → dn ++ [41] = t ++ T) := fun dn e => by rw [e, HT.out]; simp
        have HR0 : Hid (RW w3 d p r (t ++ 40 :: (wl ++ ts (wt d) (ex d) p l)) B b 0 l A' (c - 1) (t ++ 40 :: wl) w3) :=
          ⟨Nat.zero_le _, HX1.out, HA2.out.2.below HA2.out.1 HB3.out, HA2.out.1, hcl, by simp, by simp; omega, HBL3.out, HLO3.out, Below.refl _ _, Kept.refl _ _⟩
        generalize t ++ 40 :: (wl ++ ts (wt d) (ex d) p l) = full at *
        clear HBX3 HLO3 HBL3 HX1 HT HKK HSN HA2
        go_loopw [6, 46] (fun rest cnt wr => ∃ (j : Nat) (R : List No) (AR : Option Addr) (cR : Nat) (dn : List UInt8), cnt = .int .i64 (j : Int) ∧ rest = .slice AR R.length cR ∧ RW w3 d p r full B b j R AR cR dn wr) (fun _ cnt _ => p - (intOf cnt).toNat)
        case atStart => exact ⟨0, l, A', c - 1, t ++ 40 :: wl, rfl, rfl, HR0.out⟩
        case round =>
          obtain ⟨j, R, AR, cR, dn, rfl, rfl, hrw⟩ := hrel
          have HRW := Lib.hid hrw
          clear hrw HR0
          have hlen2 := HRW.out.len
          by_cases hlt : j < p
          · have hz := HRW.out.it
            rw [show p - j = (p - (j + 1)) + 1 by omega, it_succ] at hz
            obtain ⟨R1, h1, h2⟩ := Option.bind_eq_some_iff.1 hz
            have hw1 := wt_max d _ _ h1
            have HTS : Hid (dn ++ [32] ++ wt d R ++ ts (wt d) (ex d) (p - (j + 1)) R1 = full) := by
              show _ = _
              have := HRW.out.txt
              rw [show p - j = (p - (j + 1)) + 1 by omega, ts_succ h1] at this
              rw [← this]; simp
            have HC : Hid (∀ w, Nds w AR R → Lo w B → BldF B b (dn ++ [32]) w → Calls Tryd.prog 23 #[.pointer (some ⟨b, 0, none⟩), .slice AR R.length cR] w (WF R1 (dn ++ [32] ++ wt d R) B b w)) :=
              fun w g1 g2 g3 => HI.out R R1 AR cR B b (dn ++ [32]) w h1 g1 HRW.out.lo HRW.out.cap g2 g3 (by simp; omega)
            have HZ := Lib.hid h2
            clear hz h1 h2
            go_wp2_with (fail)
            refine (HBY.out 32 32 rfl dn _ HRW.out.bld (by omega) HRW.out.tab.le).mono ?_
            rintro e w5 ⟨rfl, hbl, hb, hk⟩
            have HBL5 := Lib.hid hbl
            have HB5 := Lib.hid (HRW.out.below.trans hb)
            have HKP5 := Lib.hid (HRW.out.kept.trans hk)
            have HLO5 := Lib.hid (HRW.out.tab.below hb)
            have HN5 := Lib.hid (HRW.out.nds.below HRW.out.lo hb)
            clear hbl hb hk
            go_wp2_with (fail)
            refine (HC.out _ HN5.out HLO5.out HBL5.out).mono ?_
            rintro e w6 ⟨A6, c6, rfl, hnd, hlo6, hcap, hbl, hb, hk⟩
            have HRW6 : Hid (RW w3 d p r full B b (j + 1) R1 A6 c6 (dn ++ [32] ++ wt d R) w6) :=
              ⟨by omega, HZ.out, hnd, hlo6, hcap, HTS.out, by simp; omega, hbl, HLO5.out.below hb, HB5.out.trans hb, HKP5.out.trans hk⟩
            clear hnd hlo6 hcap hbl hb hk HTS HC HZ hw1
            go_wp2_with (fail)
            go_roundw
            case rel => exact ⟨j + 1, R1, A6, c6, _, by go_num, rfl, HRW6.out⟩
            case measure => simp [intOf]; omega
          · have HE : Hid (R = r) := by
              show _ = _
              have hz := HRW.out.it
              rw [show p - j = 0 by omega, it_zero] at hz
              exact Option.some.inj hz
            have HD : Hid (dn ++ [41] = t ++ T) := HFULL.out dn (by
              have := HRW.out.txt
              rw [show p - j = 0 by omega] at this
              rw [← this]
              exact (List.append_nil _).symm)
            go_wp2_with (fail)
            refine (HBY.out 41 41 rfl dn _ HRW.out.bld (by omega) HRW.out.tab.le).mono ?_
            rintro e w5 ⟨rfl, hbl, hb, hk⟩
            have HBL5 := Lib.hid (hbl.cast HD.out)
            have HB5 := Lib.hid (HB3.out.trans (HRW.out.below.trans hb))
            have HKP5 := Lib.hid (HKP3.out.trans (HRW.out.kept.trans hk))
            have HN5 := Lib.hid (HRW.out.nds.below HRW.out.lo hb)
            clear hbl hb hk
            go_wp2_with (fail)
            go_ret
            obtain rfl := HE.out
            exact ⟨AR, cR, rfl, HN5.out, HRW.out.lo, HRW.out.cap, HBL5.out, HB5.out, HKP5.out⟩
/-- What Write answers. -/
def wq (l : List No) : List UInt8 × Nat := if Rt l = true then (if 4096 < (wt 25 l).length then ([], 3) else (wt 25 l, 0)) else ([], 1)
set_option maxRecDepth 100000 in
set_option maxHeartbeats 2000000 in
theorem ewrite_any (l : List No) (A : Option Addr) (c : Nat) (w : World) (hn : Nds w A l) (hk : KN w) (ht : Tab w) (hc : l.length ≤ c) (hl : l.length ≤ 4294967296) :
    Calls Tryd.prog 9 #[.slice A l.length c] w (Gives (.tuple #[.string (tx (wq l).1), .int .i64 ((wq l).2 : Int)]) w) := by
  have HR := Lib.hid (eright_any l A c w hn hk hl)
  have HN := Lib.hid hn; have HK := Lib.hid hk; have HT := Lib.hid ht
  clear hn hk ht
  rcases Bool.eq_false_or_eq_true (Rt l) with hr | hr
  · rw [hr] at HR
    obtain ⟨h4, hex⟩ := Rt_in hr
    have hpos : 0 < l.length := by
      cases l with
      | nil => cases hex
      | cons n t => simp
    obtain ⟨G, O, rfl⟩ := HN.out.shape hpos
    have hmax := wt_max 25 l [] hex
    have HEX := Lib.hid hex
    have HQ : Hid (wq l = if 4096 < (wt 25 l).length then ([], 3) else (wt 25 l, 0)) := by show _ = _; unfold wq; rw [if_pos hr]
    clear hr hex
    go_enter Tryd.func9, Tryd.ntmps9
    go_wp2_with (fail)
    refine HR.out.mono ?_
    rintro e w1 ⟨rfl, hb⟩
    have HB1 := Lib.hid hb
    have hb2 := box1 w1 (.cells #[.pointer none, .slice none 0 0] 58)
    have HF2 := Lib.hid (BldF.fresh w1)
    have HG : Hid (G < w1.heap.size) := (HN.out.next hb).lt hpos
    have HN2 := Lib.hid ((HN.out.next hb).next hb2)
    have HLO2 := Lib.hid ((Lo.start (HK.out.next hb) (HT.out.next hb)).below hb2)
    have HB2 := Lib.hid (Below.next hb hb2)
    have hws := hb.size
    clear hb hb2 HR HN HK HT
    go_wp2_with (fail)
    generalize w1.alloc (.cells #[.pointer none, .slice none 0 0] 58) = w2 at *
    generalize hB : w1.heap.size = B at *
    have HBS := Lib.hid hB
    clear hB
    refine (first_any 25 l [] (some ⟨G, O, none⟩) c B B [] w2 HEX.out HN2.out (fun a e => by rw [← Option.some.inj e]; exact HG.out) hc HLO2.out HF2.out (by simp; omega)).mono ?_
    rintro e w3 ⟨A3, c3, rfl, _, _, _, hbl, hb3, _⟩
    rw [List.nil_append] at hbl
    have HBL3 := Lib.hid hbl
    have HB3 : Hid (Below w.heap.size w w3) := HB2.out.trans (hb3.mono hws)
    have hsz3 : B ≤ w3.heap.size := Nat.le_trans HLO2.out.le hb3.size
    clear hbl hb3 HF2 HN2 HLO2
    generalize wt 25 l = T at *
    go_wp2_with (fail)
    refine (lenK_any B B T _ HBL3.out).mono ?_
    rintro e w' ⟨rfl, rfl⟩
    by_cases hT : 4096 < T.length
    · have HE : Hid (wq l = ([], 3)) := HQ.out.trans (if_pos hT)
      go_wp2_with (fail)
      go_ret2
      exact ⟨by rw [HE.out]; rfl, HB3.out⟩
    · have HE : Hid (wq l = (T, 0)) := HQ.out.trans (if_neg hT)
      go_wp2_with (fail)
      refine (stringK_any B B T _ HBL3.out hsz3).mono ?_
      rintro e w4 ⟨rfl, _, hb4, _⟩
      have HB4 : Hid (Below w.heap.size w w4) := HB3.out.trans (hb4.mono hws)
      clear hb4
      go_wp2_with (fail)
      go_ret2
      exact ⟨by rw [HE.out]; rfl, HB4.out⟩
  · rw [hr] at HR
    have HE : Hid (wq l = ([], 1)) := by show _ = _; unfold wq; rw [if_neg (by rw [hr]; decide)]
    clear hr
    go_enter Tryd.func9, Tryd.ntmps9
    go_wp2_with (fail)
    refine HR.out.mono ?_
    rintro e w1 ⟨rfl, hb⟩
    have HB1 := Lib.hid hb
    clear hb
    go_wp2_with (fail)
    go_ret2
    exact ⟨by rw [HE.out]; rfl, HB1.out⟩
end Go.Proofs.YtoenilppcoifpaaDoor.Ex
/-
  The laws ExprBack and ExprRight, walked.
-/
namespace Go.Proofs.YtoenilppcoifpaaDoor.Ex
open Go.ChangeShapes Go.WideShapes Go.ChangeAt Go.RowKit Go.Proofs.YtoenilppcoifpaaDoor.Ov Go.Proofs.YtoenilppcoifpaaDoor.Va

theorem tx_nil : tx [] = ⟨#[]⟩ := rfl
theorem wq_cases (l : List No) : (wq l = ([], 1) ∧ Rt l = false) ∨ (wq l = ([], 3) ∧ Rt l = true) ∨ (wq l = (wt 25 l, 0) ∧ Rt l = true ∧ (wt 25 l).length ≤ 4096) := by
  unfold wq
  rcases Bool.eq_false_or_eq_true (Rt l) with hr | hr
  · rw [if_pos hr]
    by_cases h : 4096 < (wt 25 l).length
    · rw [if_pos h]; exact .inr (.inl ⟨rfl, hr⟩)
    · rw [if_neg h]; exact .inr (.inr ⟨rfl, hr, by omega⟩)
  · rw [if_neg (by rw [hr]; decide)]; exact .inl ⟨rfl, hr⟩
set_option maxRecDepth 100000 in
set_option maxHeartbeats 4000000 in
theorem back_core (A0 : Option Addr) (c0 : Nat) (l0 : List No) (w : World) (w0 : NdIn w A0 l0.length l0) (hT : Tab w) (hK : KN w) : Calls Tryd.prog 3 #[.slice A0 l0.length c0] w (Gives (.bool true) w) := by
  have HN := Lib.hid w0.2.1
  have HK := Lib.hid hK
  have HT := Lib.hid hT
  clear w0 hK hT
  go_enter Tryd.func3, Tryd.ntmps3
  go_wp2_with (fail)
  refine (eawake_any _ HK.out).mono ?_
  rintro e w1 ⟨rfl, hb⟩
  have HB1 := Lib.hid hb
  have HK1 := Lib.hid (HK.out.next hb)
  have HT1 := Lib.hid (HT.out.next hb)
  have HN1 := Lib.hid (HN.out.next hb)
  clear hb HK HN HT
  go_wp2_with (fail)
  refine (few_any l0 A0 c0 _ HN1.out).mono ?_
  rintro e w' ⟨b, rfl, rfl, hf⟩
  cases b with
  | false =>
    clear hf
    go_wp2_with (fail)
    refine (eawake_any _ HK1.out).mono ?_
    rintro e w2 ⟨rfl, hb⟩
    have HB2 := Lib.hid (Below.next HB1.out hb)
    clear hb
    go_wp2_with (fail)
    go_ret
    exact ⟨rfl, HB2.out⟩
  | true =>
    have hl := (hf rfl).1
    clear hf
    go_wp2_with (fail)
    refine (of_any l0 A0 c0 _ HN1.out (by omega)).mono ?_
    rintro e w2 ⟨B, d, rfl, ho, hb⟩
    have HCAP := Lib.hid (own_cap ho)
    have HB2 := Lib.hid (Below.next HB1.out hb)
    have HK2 := Lib.hid (HK1.out.next hb)
    have HT2 := Lib.hid (HT1.out.next hb)
    have HN2 := Lib.hid (Nds.of_own ho)
    have HA2 := Lib.hid (HN1.out.next hb)
    clear hb ho HN1 HK1 HT1 HB1
    go_wp2_with (fail)
    have HC := Lib.hid (ewrite_any l0 B d _ HN2.out HK2.out HT2.out HCAP.out.1 (by omega))
    rcases wq_cases l0 with ⟨hq, hr⟩ | ⟨hq, hr⟩ | ⟨hq, hr, hs⟩
    · rw [hq, tx_nil] at HC
      clear hq hr
      refine HC.out.mono ?_
      rintro e w3 ⟨rfl, hb⟩
      have HB3 := Lib.hid (Below.next HB2.out hb)
      clear hb
      go_wp2_with (fail)
      go_ret
      exact ⟨rfl, HB3.out⟩
    · rw [hq, tx_nil] at HC
      have HR := Lib.hid hr
      clear hq hr
      refine HC.out.mono ?_
      rintro e w3 ⟨rfl, hb⟩
      have HB3 := Lib.hid (Below.next HB2.out hb)
      have HK3 := Lib.hid (HK2.out.next hb)
      have HA3 := Lib.hid (HA2.out.next hb)
      clear hb HC HB2 HK2 HT2 HN2 HA2 HCAP
      go_wp2_with (fail)
      refine (of_any l0 A0 c0 _ HA3.out (by omega)).mono ?_
      rintro e w4 ⟨B4, d4, rfl, ho, hb⟩
      have HB4 := Lib.hid (Below.next HB3.out hb)
      have HK4 := Lib.hid (HK3.out.next hb)
      have HN4 := Lib.hid (Nds.of_own ho)
      clear hb ho HB3 HK3 HA3
      have HC4 := Lib.hid (eright_any l0 B4 d4 _ HN4.out HK4.out (by omega))
      rw [HR.out] at HC4
      go_wp2_with (fail)
      refine HC4.out.mono ?_
      rintro e w5 ⟨rfl, hb⟩
      have HB5 := Lib.hid (Below.next HB4.out hb)
      clear hb
      go_wp2_with (fail)
      go_ret
      exact ⟨rfl, HB5.out⟩
    · rw [hq] at HC
      have HP : Hid (∀ w, KN w → Calls Tryd.prog 12 #[.string (tx (wt 25 l0))] w (PP (l0, 0, 0) w)) := fun w hk => by
        have h := eparse_any (tx (wt 25 l0)) w hk
        rw [tx_list, ps_wt hr hs] at h
        exact h
      clear hq hr hs
      dsimp only at HC
      generalize tx (wt 25 l0) = s at *
      refine HC.out.mono ?_
      rintro e w3 ⟨rfl, hb⟩
      have HB3 := Lib.hid (Below.next HB2.out hb)
      have HK3 := Lib.hid (HK2.out.next hb)
      have HA3 := Lib.hid (HA2.out.next hb)
      clear hb HC HB2 HK2 HT2 HN2 HA2 HCAP
      go_wp2_with (fail)
      refine (HP.out _ HK3.out).mono ?_
      rintro e w4 ⟨A4, d4, rfl, ho, hb⟩
      dsimp only at ho
      have HB4 := Lib.hid (Below.next HB3.out hb)
      have HN4 := Lib.hid (Nds.of_own ho)
      have HA4 := Lib.hid (HA3.out.next hb)
      clear hb ho HB3 HK3 HA3 HP
      dsimp only
      go_wp2_with (fail)
      refine (plain_list l0 A4 d4 _ HN4.out (by omega)).mono ?_
      rintro e w5 ⟨A5, d5, rfl, ho, hb⟩
      have HB5 := Lib.hid (Below.next HB4.out hb)
      have HN5 := Lib.hid (Nds.of_own ho)
      have HA5 := Lib.hid (HA4.out.next hb)
      clear hb ho HB4 HN4 HA4
      go_wp2_with (fail)
      refine (same_yes l0 A5 A0 d5 c0 _ HN5.out HA5.out (by omega)).mono ?_
      rintro e w6 ⟨rfl, hb⟩
      have HB6 := Lib.hid (Below.next HB5.out hb)
      clear hb
      go_wp2_with (fail)
      go_ret
      exact ⟨rfl, HB6.out⟩
set_option maxRecDepth 100000 in
set_option maxHeartbeats 4000000 in
theorem right_core (a0 : ByteArray) (w : World) (hT : Tab w) (hK : KN w) : Calls Tryd.prog 4 #[.string a0] w (Gives (.bool true) w) := by
  have HK := Lib.hid hK
  have HT := Lib.hid hT
  clear hK hT
  by_cases hz : a0.size ≤ 5000
  · have hz2 : ¬ (5000 : Int) < (a0.size : Int) := by omega
    obtain ⟨q, hq⟩ : ∃ q, ps a0.data.toList = q := ⟨_, rfl⟩
    have HP : Hid (∀ w, KN w → Calls Tryd.prog 12 #[.string a0] w (PP q w)) := fun w hk => by rw [← hq]; exact eparse_any a0 w hk
    have HQ := Lib.hid hq
    clear hq
    obtain ⟨l, p, k⟩ := q
    go_enter Tryd.func4, Tryd.ntmps4
    go_wp2_with (fail)
    refine (eawake_any _ HK.out).mono ?_
    rintro e w1 ⟨rfl, hb⟩
    have HB1 := Lib.hid hb
    have HK1 := Lib.hid (HK.out.next hb)
    have HT1 := Lib.hid (HT.out.next hb)
    clear hb HK HT
    go_wp2_with (fail)
    refine (HP.out _ HK1.out).mono ?_
    rintro e w2 ⟨A, c, rfl, ho, hb⟩
    dsimp only at ho ⊢
    have HB2 := Lib.hid (Below.next HB1.out hb)
    have HK2 := Lib.hid (HK1.out.next hb)
    have HT2 := Lib.hid (HT1.out.next hb)
    have HN2 := Lib.hid (Nds.of_own ho)
    have HCAP := Lib.hid (own_cap ho)
    clear hb ho HK1 HT1 HB1 HP
    by_cases hk0 : k = 0
    · subst hk0
      obtain ⟨hp0, hr⟩ := ps_ok HQ.out
      subst hp0
      have hl4 := (Rt_in hr).1
      have HR := Lib.hid hr
      have HC := Lib.hid (ewrite_any l A c _ HN2.out HK2.out HT2.out HCAP.out.1 (by omega))
      clear HQ
      rcases wq_cases l with ⟨_, hr2⟩ | ⟨hq, _⟩ | ⟨hq, _, hs⟩
      · rw [hr] at hr2; cases hr2
      · rw [hq, tx_nil] at HC
        clear hq hr
        have HP : Hid (∀ w, KN w → Calls Tryd.prog 12 #[.string ⟨#[]⟩] w (PP (ps []) w)) := fun w hk => eparse_any ⟨#[]⟩ w hk
        generalize ps [] = q at *
        go_wp2_with (fail)
        refine HC.out.mono ?_
        rintro e w3 ⟨rfl, hb⟩
        have HB3 := Lib.hid (Below.next HB2.out hb)
        have HK3 := Lib.hid (HK2.out.next hb)
        have HN3 := Lib.hid (HN2.out.next hb)
        clear hb HC HB2 HK2 HT2 HN2
        go_wp2_with (fail)
        refine (HP.out _ HK3.out).mono ?_
        rintro e w4 ⟨A4, c4, rfl, _, hb⟩
        have HB4 := Lib.hid (Below.next HB3.out hb)
        have HK4 := Lib.hid (HK3.out.next hb)
        have HN4 := Lib.hid (HN3.out.next hb)
        clear hb HB3 HK3 HN3 HP
        have HC4 := Lib.hid (eright_any l A c _ HN4.out HK4.out (by omega))
        rw [HR.out] at HC4
        go_wp2_with (fail)
        refine HC4.out.mono ?_
        rintro e w5 ⟨rfl, hb⟩
        have HB5 := Lib.hid (Below.next HB4.out hb)
        clear hb
        go_wp2_with (fail)
        go_ret
        exact ⟨rfl, HB5.out⟩
      · rw [hq] at HC
        dsimp only at HC
        have HP : Hid (∀ w, KN w → Calls Tryd.prog 12 #[.string (tx (wt 25 l))] w (PP (l, 0, 0) w)) := fun w hk => by
          have h := eparse_any (tx (wt 25 l)) w hk
          rw [tx_list, ps_wt hr hs] at h
          exact h
        clear hq hr hs
        generalize tx (wt 25 l) = s at *
        go_wp2_with (fail)
        refine HC.out.mono ?_
        rintro e w3 ⟨rfl, hb⟩
        have HB3 := Lib.hid (Below.next HB2.out hb)
        have HK3 := Lib.hid (HK2.out.next hb)
        have HN3 := Lib.hid (HN2.out.next hb)
        clear hb HC HB2 HK2 HT2 HN2
        go_wp2_with (fail)
        refine (HP.out _ HK3.out).mono ?_
        rintro e w4 ⟨A4, c4, rfl, ho, hb⟩
        dsimp only at ho ⊢
        have HB4 := Lib.hid (Below.next HB3.out hb)
        have HK4 := Lib.hid (HK3.out.next hb)
        have HN4 := Lib.hid (HN3.out.next hb)
        have HM4 := Lib.hid (Nds.of_own ho)
        clear hb ho HB3 HK3 HN3 HP
        have HC4 := Lib.hid (eright_any l A c _ HN4.out HK4.out (by omega))
        rw [HR.out] at HC4
        go_wp2_with (fail)
        refine HC4.out.mono ?_
        rintro e w5 ⟨rfl, hb⟩
        have HB5 := Lib.hid (Below.next HB4.out hb)
        have HN5 := Lib.hid (HN4.out.next hb)
        have HM5 := Lib.hid (HM4.out.next hb)
        clear hb HB4 HK4 HN4 HM4 HC4
        go_wp2_with (fail)
        refine (plain_list l A c _ HN5.out (by omega)).mono ?_
        rintro e w6 ⟨A6, c6, rfl, ho, hb⟩
        have HB6 := Lib.hid (Below.next HB5.out hb)
        have HN6 := Lib.hid (Nds.of_own ho)
        have HM6 := Lib.hid (HM5.out.next hb)
        clear hb ho HB5 HN5 HM5
        go_wp2_with (fail)
        refine (plain_list l A4 c4 _ HM6.out (by omega)).mono ?_
        rintro e w7 ⟨A7, c7, rfl, ho, hb⟩
        have HB7 := Lib.hid (Below.next HB6.out hb)
        have HM7 := Lib.hid (Nds.of_own ho)
        have HN7 := Lib.hid (HN6.out.next hb)
        clear hb ho HB6 HN6 HM6
        go_wp2_with (fail)
        refine (same_yes l A6 A7 c6 c7 _ HN7.out HM7.out (by omega)).mono ?_
        rintro e w8 ⟨rfl, hb⟩
        have HB8 := Lib.hid (Below.next HB7.out hb)
        clear hb
        go_wp2_with (fail)
        go_ret
        exact ⟨rfl, HB8.out⟩
    · obtain ⟨hl, hp⟩ := ps_bad HQ.out hk0
      subst hl
      have hkv : ((k : Int) != 0) = true := by rw [bne_iff_ne]; omega
      have hp2 : (p : Int) ≤ (a0.size : Int) := by
        have e : a0.data.toList.length = a0.size := by simp
        omega
      clear HQ hk0 hp
      go_wp2_with (fail)
      go_ret
      exact ⟨by simp, HB2.out⟩
  · have hz2 : (5000 : Int) < (a0.size : Int) := by omega
    go_enter Tryd.func4, Tryd.ntmps4
    go_wp2_with (fail)
    refine (eawake_any _ HK.out).mono ?_
    rintro e w1 ⟨rfl, hb⟩
    have HB1 := Lib.hid hb
    have HK1 := Lib.hid (HK.out.next hb)
    clear hb
    go_wp2_with (fail)
    refine (eawake_any _ HK1.out).mono ?_
    rintro e w2 ⟨rfl, hb⟩
    have HB2 := Lib.hid (Below.next HB1.out hb)
    clear hb
    go_wp2_with (fail)
    go_ret
    exact ⟨rfl, HB2.out⟩
end Go.Proofs.YtoenilppcoifpaaDoor.Ex
/-
  The law ExprEnds, walked.
-/
namespace Go.Proofs.YtoenilppcoifpaaDoor.Ex
open Go.ChangeShapes Go.WideShapes Go.ChangeAt Go.RowKit Go.Proofs.YtoenilppcoifpaaDoor.Ov Go.Proofs.YtoenilppcoifpaaDoor.Va

theorem edx_some {l : List No} {a : Int} {r : List No} (h : edx l a = some r) : ∃ k : Nat, a = (k : Int) ∧ Rt l = true ∧ ex 25 (l.drop k) = some r := by
  unfold edx at h
  split at h
  · cases h
  · split at h
    · exact ⟨a.toNat, by omega, ‹_›, h⟩
    · cases h
set_option maxRecDepth 100000 in
set_option maxHeartbeats 4000000 in
theorem ends_core (A0 : Option Addr) (c0 : Nat) (l0 : List No) (a1 : Int) (w : World) (w0 : NdIn w A0 l0.length l0) (hK : KN w) : Calls Tryd.prog 6 #[.slice A0 l0.length c0, .int .i64 a1] w (Gives (.bool true) w) := by
  have HN := Lib.hid w0.2.1
  have HK := Lib.hid hK
  clear w0 hK
  go_enter Tryd.func6, Tryd.ntmps6
  go_wp2_with (fail)
  refine (eawake_any _ HK.out).mono ?_
  rintro e w1 ⟨rfl, hb⟩
  have HB1 := Lib.hid hb
  have HK1 := Lib.hid (HK.out.next hb)
  have HN1 := Lib.hid (HN.out.next hb)
  clear hb HK HN
  go_wp2_with (fail)
  refine (few_any l0 A0 c0 _ HN1.out).mono ?_
  rintro e w' ⟨b, rfl, rfl, hf⟩
  cases b with
  | false =>
    clear hf
    go_wp2_with (fail)
    refine (eawake_any _ HK1.out).mono ?_
    rintro e w2 ⟨rfl, hb⟩
    have HB2 := Lib.hid (Below.next HB1.out hb)
    clear hb
    go_wp2_with (fail)
    go_ret
    exact ⟨rfl, HB2.out⟩
  | true =>
    have hl := (hf rfl).1
    clear hf
    go_wp2_with (fail)
    refine (of_any l0 A0 c0 _ HN1.out (by omega)).mono ?_
    rintro e w2 ⟨B, d, rfl, ho, hb⟩
    have HO := Lib.hid ho
    have HB2 := Lib.hid (Below.next HB1.out hb)
    have HK2 := Lib.hid (HK1.out.next hb)
    have HN2 := Lib.hid (Nds.of_own ho)
    clear hb ho HN1 HK1 HB1
    obtain ⟨x, hx⟩ : ∃ x, edx l0 a1 = x := ⟨_, rfl⟩
    have HC := Lib.hid (eend_any l0 B d a1 _ HN2.out HK2.out (by omega))
    rw [hx] at HC
    have HX := Lib.hid hx
    clear hx
    cases x with
    | none =>
      unfold enx at HC
      go_wp2_with (fail)
      refine HC.out.mono ?_
      rintro e w3 ⟨rfl, hb⟩
      have HB3 := Lib.hid (Below.next HB2.out hb)
      clear hb
      go_wp2_with (fail)
      go_ret
      exact ⟨rfl, HB3.out⟩
    | some r =>
      obtain ⟨k, rfl, hr, hex⟩ := edx_some HX.out
      have hk : k < l0.length := by
        rcases Nat.lt_or_ge k l0.length with h | h
        · exact h
        · rw [List.drop_of_length_le h, ex_nil] at hex; cases hex
      obtain ⟨g1, g2, g3⟩ := ex_drop_len hex (by omega)
      have hal := ex_alone hex
      rw [List.length_drop] at hal
      unfold enx at HC
      dsimp only at HC
      obtain ⟨v, hv⟩ : ∃ v, l0.length - r.length = v := ⟨_, rfl⟩
      rw [hv] at HC g1 g2
      rw [show l0.length - k - r.length = v - k by omega] at hal
      have hvn : v ≤ l0.length := by omega
      obtain ⟨G, D, hBD, _, _⟩ := HO.out.form (by omega)
      injection hBD with h1 h2 h3
      subst h1
      subst h3
      have hcap := own_cap HO.out
      have HRT : Hid (Rt ((l0.drop k).take (v - k)) = true) := decide_eq_true ⟨by rw [List.length_take, List.length_drop]; have := (Rt_in hr).1; omega, hal⟩
      have HE : Hid (it (ex 24) (pa (nd l0 k).o) (l0.drop (k + 1)) = some r) := by
        show _ = _
        rw [drop_nd hk, ex_cons] at hex
        split at hex
        · exact hex
        · cases hex
      have HEND : Hid (∀ y, y ≤ l0.length → ∀ r1, ex 24 (l0.drop y) = some r1 → edx l0 (y : Int) = some r1) := fun y _ r1 h => by
        unfold edx
        rw [if_neg (by omega), if_pos hr]
        exact ex_more h (by omega)
      have HG1 := Lib.hid g1
      clear hal hex hr g1 HX h2
      have hdk : ¬ d = k := by omega
      go_wp2_with (fail)
      refine HC.out.mono ?_
      rintro e w3 ⟨rfl, hb⟩
      have HB3 := Lib.hid (Below.next HB2.out hb)
      have HK3 := Lib.hid (HK2.out.next hb)
      have HN3 := Lib.hid (HN2.out.next hb)
      clear hb HC HO HB2 HK2 HN2
      have hvk : (k : Int) ≤ (v : Int) := by omega
      have HRC : Hid (Calls Tryd.prog 11 #[.slice (some ⟨G, k * 6, none⟩) (v - k) (d - k)] w3 (Gives (.bool true) w3)) := by
        have hlen : ((l0.drop k).take (v - k)).length = v - k := by rw [List.length_take, List.length_drop]; omega
        have hnd := (HN3.out.drop k).take (k := v - k)
        rw [Nat.zero_add] at hnd
        have h := eright_any ((l0.drop k).take (v - k)) (some ⟨G, k * 6, none⟩) (d - k) w3 hnd HK3.out (by omega)
        rw [hlen, HRT.out] at h
        exact h
      have HW3 : Hid (G < w3.heap.size) := HN3.out.lt (by omega)
      go_wp2_with (fail)
      refine HRC.out.mono ?_
      rintro e w4 ⟨rfl, hb⟩
      have HB4 := Lib.hid (Below.next HB3.out hb)
      have HK4 := Lib.hid (HK3.out.next hb)
      have HN4 := Lib.hid (HN3.out.next hb)
      clear hb HRC HRT HB3 HK3 HN3 HW3
      have e0 := HN4.out.cell hk 0 _ rfl
      rw [Nat.zero_add, Nat.add_zero] at e0
      have HP := Lib.hid (parts_any (nd l0 k).o w4 HK4.out)
      unfold ptv at HP
      have hp3 := pa_le (nd l0 k).o
      generalize tx (wd (nd l0 k).o) = tw at *
      generalize pa (nd l0 k).o = p at *
      generalize (nd l0 k).o = o at *
      go_wp2_with (fail)
      refine HP.out.mono ?_
      rintro e w5 ⟨rfl, hb⟩
      have HB5 := Lib.hid (Below.next HB4.out hb)
      have HK5 := Lib.hid (HK4.out.next hb)
      have HN5 := Lib.hid (HN4.out.next hb)
      clear hb HP HB4 HK4 HN4 e0
      go_wp2_with (fail)
      go_loopw [11, 12] (fun nx i wr => ∃ j y : Nat, j ≤ p ∧ y ≤ l0.length ∧ i = .int .i64 (j : Int) ∧ nx = .int .i64 (y : Int) ∧ it (ex 24) (p - j) (l0.drop y) = some r ∧ Below w5.heap.size w5 wr) (fun _ i _ => p - (intOf i).toNat)
      case atStart => exact ⟨0, k + 1, Nat.zero_le _, by omega, rfl, rfl, HE.out, Below.refl _ _⟩
      case round =>
        obtain ⟨j, y, hj, hy, rfl, rfl, hz, hb⟩ := hrel
        have HB6 := Lib.hid hb
        clear hb
        by_cases hlt : j < p
        · rw [show p - j = (p - (j + 1)) + 1 by omega, it_succ] at hz
          obtain ⟨r1, h1, h2⟩ := Option.bind_eq_some_iff.1 hz
          obtain ⟨g4, g5, g6⟩ := ex_drop_len h1 hy
          have HC := Lib.hid (eend_any l0 (some ⟨G, 0, none⟩) d (y : Int) wr (HN5.out.next HB6.out) (HK5.out.next HB6.out) (by omega))
          rw [HEND.out y hy r1 h1] at HC
          unfold enx at HC
          dsimp only at HC
          obtain ⟨v1, hv1⟩ : ∃ v1, l0.length - r1.length = v1 := ⟨_, rfl⟩
          rw [hv1] at HC g4 g5
          rw [g4] at h2
          have HZ := Lib.hid h2
          have hv1n : v1 ≤ l0.length := by omega
          clear hz h1 h2 g4 hv1
          have hyv : (y : Int) < (v1 : Int) := by omega
          go_wp2_with (fail)
          refine HC.out.mono ?_
          rintro e w7 ⟨rfl, hb⟩
          have HB7 := Lib.hid (Below.next HB6.out hb)
          clear hb
          go_wp2_with (fail)
          go_roundw
          case rel => exact ⟨j + 1, v1, by omega, hv1n, by go_num, rfl, HZ.out, HB7.out⟩
          case measure => simp [intOf]; omega
        · rw [show p - j = 0 by omega, it_zero] at hz
          have hyv : y = v := by
            have := congrArg List.length (Option.some.inj hz)
            rw [List.length_drop] at this
            omega
          have HB7 := Lib.hid (Below.next HB5.out HB6.out)
          clear hz
          subst hyv
          go_wp2_with (fail)
          go_ret
          exact ⟨rfl, HB7.out⟩
end Go.Proofs.YtoenilppcoifpaaDoor.Ex

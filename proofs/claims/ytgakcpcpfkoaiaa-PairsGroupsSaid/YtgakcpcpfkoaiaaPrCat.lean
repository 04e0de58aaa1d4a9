/-
  slices.Grow of nil, slices.Concat of lists of pairs.
-/
import Derived.Test.YtgakcpcpfkoaiaaPrMem
import Derived.Shelf.Spec.SlicesGrow
import Derived.Laws.AppendOwnNone
import Derived.Laws.OwnMore
namespace Go.Proofs.Ytgakcpcpfkoaiaa.Pr
open Go.ChangeShapes Go.WideShapes Go.ChangeAt Go.RowKit Go.Sort Go.Shelf Go.Proofs Go.Proofs.Ytgakcpcpfkoaiaa.Ov Go.Proofs.Ytgakcpcpfkoaiaa.Va Go.Proofs.Ytgakcpcpfkoaiaa.St

theorem infoP : (Try.prog.info? 44).map (fun i => (i.zero, i.size, i.bytes)) = some (some (.agg (pcl pz).toArray), 6, 64) := by kernel_rfl
def growRen : Ren := ⟨fun | 4 => 48 | n => n, fun | 0 => 0 | 3 => 3 | 4 => 4 | 9 => 9 | 20 => 20 | 22 => 22 | 25 => 44 | n => n, fun n => n⟩
theorem growLays : Lays8.n4 Try.prog growRen :=
  { mixed := by kernel_rfl
    f4 := ⟨Try.f48.name, by kernel_rfl, by kernel_rfl⟩
    t0 := by kernel_rfl
    a0 := fun _ => by kernel_rfl
    z0 := fun _ => by kernel_rfl
    v0 := fun _ => by kernel_rfl
    t3 := by kernel_rfl
    a3 := fun _ => by kernel_rfl
    z3 := fun _ => by kernel_rfl
    v3 := fun _ => by kernel_rfl
    t4 := by kernel_rfl
    a4 := fun _ => by kernel_rfl
    z4 := fun _ => by kernel_rfl
    v4 := fun _ => by kernel_rfl
    t9 := by kernel_rfl
    a9 := fun _ => by kernel_rfl
    z9 := fun _ => by kernel_rfl
    v9 := fun _ => by kernel_rfl
    t20 := by kernel_rfl
    a20 := fun _ => by kernel_rfl
    z20 := fun _ => by kernel_rfl
    v20 := fun _ => by kernel_rfl
    t22 := by kernel_rfl
    a22 := fun _ => by kernel_rfl
    z22 := fun _ => by kernel_rfl
    v22 := fun _ => by kernel_rfl }
/-- slices.Grow of nil: nil, or a new row of no element. -/
theorem grow_any (n : Nat) (w : World) (hn : n ≤ 1000000) : Calls Try.prog 48 #[.slice none 0 0, .int .i64 n] w fun e w' =>
    ∃ v, e = .returned v ∧ w'.ownsRow w.heap.size 44 6 v 0 [] ∧ Below w.heap.size w w' := by
  by_cases h0 : n = 0
  · subst h0
    exact (Any8.slices_Grow_room growLays none 0 0 0 w (by omega) (by omega) (by omega) (by omega)).mono fun _ w' ⟨he, hw⟩ => by
      subst hw
      exact ⟨_, he, ⟨rfl, .inl ⟨rfl, rfl⟩⟩, Below.refl _ _⟩
  · obtain ⟨i0, hi0, hi1, hi2, hi3⟩ := info_parts infoP
    refine (Any8.slices_Grow_grow growLays i0 _ hi0 hi1 (by rw [hi2]; decide) none 0 0 n [] w (by omega) (by omega) (by rw [hi3]; omega) (by omega) (by simp) (fun _ => rfl) (fun a h => by cases h)).mono ?_
    rintro e w' ⟨rfl, rfl⟩
    have hg := grownCap_ge w (0 + n) 0 44
    have hm := grownCap_le_maxLen w (0 + n) 0 44 (by unfold maxLen; omega)
    obtain ⟨G, hG⟩ : ∃ G, G = grownCap w (0 + n) 0 44 := ⟨_, rfl⟩
    have e25 : growRen.t 25 = 44 := rfl
    rw [e25, ← hG]
    rw [← hG] at hg hm
    obtain ⟨cs, hcs⟩ : ∃ cs, cs = ([] : List Value).toArray ++ Builtin.zeroCells (Value.agg (pcl pz).toArray).cells (0 + n - 0) ++ Builtin.zeroCells (Value.agg (pcl pz).toArray).cells (G - (0 + n)) := ⟨_, rfl⟩
    have hsz : cs.size = G * 6 := by
      rw [hcs]
      simp [Builtin.zeroCells, Value.cells, pcl]
      omega
    rw [← hcs]
    have h1 : (w.drew.alloc (.cells cs 44)).ownsRow w.heap.size 44 6 (.slice (some ⟨w.heap.size, 0, none⟩) 0 G) 0 [] :=
      ⟨rfl, .inr ⟨w.heap.size, G, cs, rfl, Nat.le_refl _, (by show (w.heap.push _)[w.heap.size]? = _; simp), Nat.zero_le _, hm, hsz, by simp⟩⟩
    have hB : Below w.heap.size w w.drew := below_drewN (Below.refl _ w) 1
    exact ⟨_, rfl, h1, hB.alloc (Nat.le_refl _) _⟩
/-- A list as it is handed in: where it lies, its room, its pairs. -/
abbrev Part := Option Addr × Nat × List Pr
instance : Inhabited Part := ⟨(none, 0, [])⟩
def pv (q : Part) : Value := .slice q.1 q.2.2.length q.2.1
/-- It lies there. -/
def PIn (w : World) (q : Part) : Prop := Prs w q.1 q.2.2 ∧ (q.1 = none → q.2.2 = [] ∧ q.2.1 = 0)
theorem PIn.next {w w' : World} {q : Part} (h : PIn w q) (k : Below w.heap.size w w') : PIn w' q := ⟨h.1.next k, h.2⟩
/-- These lists lie behind a pointer. -/
def Lls (w : World) (A : Option Addr) (qs : List Part) : Prop :=
  ∃ B O, A = some ⟨B, O, none⟩ ∧ (∀ i, i < qs.length → w.cell? ⟨B, O + i, none⟩ = some (pv (qs[i]?.getD default))) ∧ ∀ i, i < qs.length → PIn w (qs[i]?.getD default)
/-- The first of these lists, one behind the other. -/
def al (qs : List Part) (i : Nat) : List Pr := (qs.take i).flatMap (·.2.2)
theorem al_succ {qs : List Part} {i : Nat} (h : i < qs.length) : al qs (i + 1) = al qs i ++ (qs[i]?.getD default).2.2 := by
  unfold al
  rw [List.take_succ_eq_append_getElem h, List.flatMap_append]
  simp [h]
theorem al_le (qs : List Part) (i : Nat) : (al qs i).length ≤ (al qs qs.length).length := by
  unfold al
  rw [List.take_length]
  conv => rhs; rw [← List.take_append_drop i qs]
  rw [List.flatMap_append, List.length_append]; omega
theorem own_keep {w w' : World} {base size n : Nat} {e : TypeId} {v : Value} {xs : List Value} (h : w.ownsRow base e size v n xs) (k : Below w.heap.size w w') : w'.ownsRow base e size v n xs :=
  h.kept (row := none) ⟨k.os, k.tape, k.output, k.size, fun i hi _ => k.block i hi⟩ (by cases v.ownBlock <;> simp)
theorem slice_of {w : World} {base n : Nat} {e : TypeId} {v : Value} {xs : List Value} (h : w.ownsRow base e 6 v n xs) : ∃ A c, v = .slice A n c ∧ (A = none → n = 0 ∧ c = 0) := by
  rcases h.2 with ⟨rfl, rfl⟩ | ⟨g, cap, cur, rfl, _⟩
  · exact ⟨none, 0, rfl, fun _ => ⟨rfl, rfl⟩⟩
  · exact ⟨_, cap, rfl, fun h => by cases h⟩
set_option maxHeartbeats 2000000 in
set_option maxRecDepth 100000 in
/-- slices.Concat of lists of pairs. -/
theorem concat_any (A : Option Addr) (c : Nat) (qs : List Part) (w : World) (h : Lls w A qs) (hq : qs.length ≤ 1000) (hT : (al qs qs.length).length ≤ 1000000) :
    Calls Try.prog 30 #[.slice A qs.length c] w fun e w' => ∃ v, e = .returned v ∧ w'.ownsRow w.heap.size 44 6 v (al qs qs.length).length (pcells (al qs qs.length)) ∧ Below w.heap.size w w' := by
  obtain ⟨B, O, rfl, hc, hP⟩ := h
  have HC := Lib.hid hc; have HP := Lib.hid hP
  have HT := Lib.hid hT
  clear hc hP
  go_enter Try.func30, Try.ntmps30
  go_wp2_with (fail)
  go_loopg [3, 11] qs.length (fun kx s3 s11 wr => ∃ (i x : Nat), i ≤ qs.length ∧ qs.length - i ≤ kx ∧ s3 = .int .i64 x ∧ s11 = .int .i64 i ∧ Hid (x = (al qs i).length) ∧ w = wr)
  case atStart => exact ⟨0, 0, Nat.zero_le _, by omega, rfl, rfl, Lib.hid rfl, rfl⟩
  case round =>
    obtain ⟨i, x, hi, hkx, rfl, rfl, HX, rfl⟩ := hrel
    by_cases hlt : i < qs.length
    · have hltz : (i : Int) < (qs.length : Int) := by omega
      have ci := HC.out i hlt
      have HS := Lib.hid (al_succ hlt)
      have hle := al_le qs (i + 1)
      have hx : x + (qs[i]?.getD default).2.2.length ≤ 1000000 := by
        have := congrArg List.length HS.out
        rw [List.length_append, ← HX.out] at this
        have := HT.out
        omega
      clear hle
      unfold pv at ci
      obtain ⟨y, hy⟩ : ∃ y, y = (qs[i]?.getD default).2.2.length := ⟨_, rfl⟩
      have HY := Lib.hid hy
      rw [← hy] at ci hx
      clear hy
      generalize (qs[i]?.getD default).1 = Ai at ci
      generalize (qs[i]?.getD default).2.1 = gi at ci
      have hneg : ¬ ((x : Int) + (y : Int) < 0) := by omega
      go_wp2_with (fail)
      go_roundg (qs.length - (i + 1))
      case measure => omega
      case rel => exact ⟨i + 1, x + y, by omega, Nat.le_refl _, by go_num, by go_num, Lib.hid (by rw [HS.out, List.length_append, ← HX.out, HY.out]), rfl⟩
    · have hltz : ¬ (i : Int) < (qs.length : Int) := by omega
      obtain rfl : i = qs.length := by omega
      have hx : x ≤ 1000000 := by have := HX.out; have := HT.out; omega
      clear HX
      go_wp2_with (fail)
      refine (grow_any x w hx).mono ?_
      rintro e w1 ⟨v0, rfl, hown, hb⟩
      have HO := Lib.hid hown; have HB := Lib.hid hb
      clear hown hb
      obtain ⟨i0, hi0, hi1, hi2, hi3⟩ := info_parts infoP
      have HI0 := Lib.hid hi0; have HI1 := Lib.hid hi1; have HI2 := Lib.hid hi2; have HI3 := Lib.hid hi3
      clear hi0 hi1 hi2 hi3
      obtain ⟨A0, c0, rfl, _⟩ := slice_of HO.out
      go_wp2_with (fail)
      go_loopg [6, 27] qs.length (fun kx s6 s27 w2 => ∃ (j : Nat), j ≤ qs.length ∧ qs.length - j ≤ kx ∧ s27 = .int .i64 j ∧ Hid (w2.ownsRow w.heap.size 44 6 s6 (al qs j).length (pcells (al qs j))) ∧ Hid (Below w.heap.size w w2))
      case atStart => exact ⟨0, Nat.zero_le _, by omega, rfl, HO, HB⟩
      case round =>
        clear HO HB
        obtain ⟨j, hj, hkj, rfl, HO, HB⟩ := hrel
        by_cases hlj : j < qs.length
        · have hljz : (j : Int) < (qs.length : Int) := by omega
          have cj0 := HC.out j hlj
          have cj := (HB.out.cell (p := ⟨B, O + j, none⟩) (block_lt_of_cell cj0)).trans cj0
          clear cj0
          have hPj := (HP.out j hlj).next HB.out
          have HS := Lib.hid (al_succ hlj)
          have hle := al_le qs (j + 1)
          rw [HS.out, List.length_append] at hle
          have h9 := Nat.le_trans hle HT.out
          clear hle
          unfold pv at cj
          obtain ⟨A1, c1, hsl, _⟩ := slice_of HO.out
          subst hsl
          generalize hqj : qs[j]?.getD default = q at cj hPj HS h9
          obtain ⟨Aj, gj, lj⟩ := q
          have HQ := Lib.hid hqj; clear hqj
          dsimp only at cj hPj h9
          cases Aj with
          | none =>
            obtain ⟨hn1, hn2⟩ := hPj.2 rfl
            dsimp only at hn1 hn2
            subst hn1; subst hn2
            clear hPj
            go_wp2_with (at_builtin; refine wpList_append_own_none rfl _ _ 22 rfl w.heap.size 44 i0 6 Try.underlying22 HI0.out _ _ _ rfl HO.out rfl ?_)
            go_roundg (qs.length - (j + 1))
            case measure => omega
            case rel => exact ⟨j + 1, by omega, Nat.le_refl _, by go_num, Lib.hid (by rw [HS.out, List.append_nil]; exact HO.out), HB⟩
          | some ad =>
            have HPJ := Lib.hid hPj.1
            clear hPj
            go_wp2_with (at_builtin; refine wpList_append_own _ rfl _ _ 22 rfl w.heap.size 44 i0 (.agg (pcl pz).toArray) 6 64 Try.underlying22 HI0.out HI1.out HI2.out HI3.out rfl (by decide) _ _ _ rfl HO.out ad lj.length gj (pcells lj) rfl (pcells_len lj) ?c1 (pcells_one lj) ?c3 ?c4 ?c5 ?_)
            case c1 =>
              intro t u ht
              have hlt' : t < lj.length * 6 := by have := (List.getElem?_eq_some_iff.1 ht).1; rwa [pcells_len] at this
              obtain ⟨G, O', e, hcc⟩ := HPJ.out (by omega)
              obtain rfl := Option.some.inj e
              have e1 : t = t / 6 * 6 + t % 6 := by omega
              rw [e1, pcells_at lj _ _ (by omega) (Nat.mod_lt _ (by omega))] at ht
              have := hcc (t / 6) (t % 6) u (by omega) ht
              rw [Addr.add_lit, e1, ← Nat.add_assoc]
              exact this
            case c3 => unfold maxLen; omega
            case c4 => omega
            case c5 => exact HB.out.size
            intro v' w3 hown' hgrow _
            have HN := Lib.hid hown'
            have HB3 := Lib.hid (HB.out.grown hgrow HB.out.size (fun g e => (HO.out.lt g e).1))
            clear hown' hgrow
            go_wp2_with (fail)
            go_roundg (qs.length - (j + 1))
            case measure => omega
            case rel => exact ⟨j + 1, by omega, Nat.le_refl _, by go_num, Lib.hid (by rw [HS.out, List.length_append, pcells_append]; exact HN.out), HB3⟩
        · have hljz : ¬ (j : Int) < (qs.length : Int) := by omega
          obtain rfl : j = qs.length := by omega
          obtain ⟨A1, c1, hsl, _⟩ := slice_of HO.out
          subst hsl
          go_wp2_with (fail)
          go_ret
          exact ⟨_, rfl, HO.out, HB.out⟩
end Go.Proofs.Ytgakcpcpfkoaiaa.Pr

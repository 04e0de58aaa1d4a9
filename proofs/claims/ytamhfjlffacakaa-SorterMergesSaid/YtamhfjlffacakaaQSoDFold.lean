/-
  A text of this claim: SoDFold.
-/
import Derived.Test.YtamhfjlffacakaaQ5
import Derived.Test.YtamhfjlffacakaaQ4
import Derived.Test.YtamhfjlffacakaaQPrRef
import Derived.Test.YtamhfjlffacakaaQOvAlloc
import Derived.Deep.RegionHeld3
import Derived.Deep.CutRange
import Derived.Deep.Cut
namespace Go.Proofs.Ytamhfjlffacakaa.So
open Go.ChangeShapes Go.WideShapes Go.ChangeAt Go.RowKit Go.Sort Go.Shelf Go.Proofs Ov Va St Pr Jo
theorem rfold_va (c : ByteArray) (a b : Va) (w : World) : Calls Try.prog 29 #[.string c, .agg (wcl a).toArray, .agg (wcl b).toArray] w (Gives (.tuple #[.agg (wcl (fo c.data.toList a b).1).toArray, .int .i64 (fo c.data.toList a b).2]) w) := by
 have h := rfold_any c a.k a.n a.x a.y b.k b.n b.x b.y (tx a.s) (tx b.s) w
 simp only [tx_list] at h
 exact h
structure DI (cw : List UInt8) (l : List Pr) (i : Nat) (m : List Pr) : Prop where
 df : df cw (l.take i) = (m, 0)
 last : 0 < i → ∃ m' q, m = m' ++ [q] ∧ q.1 = (pd l (i - 1)).1
section
variable {cw : List UInt8} {l m : List Pr} {i : Nat}
theorem DI.new (h : DI cw l i m) (hi : i < l.length) (hk : i = 0 ∨ (pd l i).1 ≠ (pd l (i - 1)).1) : DI cw l (i + 1) (m ++ [pd l i]) := by
 refine ⟨?_, fun _ => ⟨m, pd l i, rfl, rfl⟩⟩
 rw [take_snoc l i hi, df_snoc, h.df]
 refine ds_new fun q hq e => ?_
 have h0 : 0 < i → False := fun h0 => by
  obtain ⟨m', q', rfl, hq'⟩ := h.last h0
  rw [List.getLast?_concat] at hq
  obtain rfl := Option.some.inj hq
  rcases hk with rfl | hk
  · exact Nat.lt_irrefl _ h0
  · exact hk (by rw [← e, hq'])
 rcases Nat.eq_zero_or_pos i with rfl | h1
 · have := h.df
   obtain rfl : [] = m := congrArg Prod.fst this
   cases hq
 · exact h0 h1
theorem DI.old {m' : List Pr} {q : Pr} (h : DI cw l i (m' ++ [q])) (hi : i < l.length) (hk : q.1 = (pd l i).1) (hf : (fo cw q.2 (pd l i).2).2 = 0) : DI cw l (i + 1) (m' ++ [(q.1, (fo cw q.2 (pd l i).2).1)]) :=
 ⟨by rw [take_snoc l i hi, df_snoc, h.df, ds_old hk, if_pos hf], fun _ => ⟨m', _, rfl, hk⟩⟩
theorem DI.err {m' : List Pr} {q : Pr} (h : DI cw l i (m' ++ [q])) (hi : i < l.length) (hk : q.1 = (pd l i).1) (hf : (fo cw q.2 (pd l i).2).2 ≠ 0) : So.df cw l = ([], (fo cw q.2 (pd l i).2).2) := by
 have h1 : So.df cw (l.take (i + 1)) = ([], (fo cw q.2 (pd l i).2).2) := by rw [take_snoc l i hi, df_snoc, h.df, ds_old hk, if_neg hf]
 have h2 : l = l.take (i + 1) ++ l.drop (i + 1) := (List.take_append_drop _ _).symm
 have h3 : So.df cw (l.take (i + 1) ++ l.drop (i + 1)) = ([], (fo cw q.2 (pd l i).2).2) := by
  unfold So.df at h1 ⊢
  rw [List.foldl_append, h1, ds_err hf]
 rwa [← h2] at h3
end
theorem pcells_set5 (m : List Pr) (q : Pr) (v : Va) : pcells (m ++ [(q.1, v)]) =
 (((((pcells (m ++ [q])).set (m.length * 6 + 1) (.int .i64 v.k)).set (m.length * 6 + 1 + 1) (.int .i64 v.n)).set (m.length * 6 + 1 + 2) (.string (tx v.s))).set (m.length * 6 + 1 + 3) (.int .i64 v.x)).set (m.length * 6 + 1 + 4) (.int .i64 v.y) := by
 have e : ∀ z : Pr, pcells (m ++ [z]) = pcells m ++ pcl z := fun z => by rw [pcells_append]; simp [pcells]
 rw [e, e]
 have hl : (pcells m).length = m.length * 6 := pcells_len m
 simp only [Nat.add_assoc]
 rw [set_right _ _ _ _ hl, set_right _ _ _ _ hl, set_right _ _ _ _ hl, set_right _ _ _ _ hl, set_right _ _ _ _ hl]
 rfl
set_option maxRecDepth 100000 in
set_option maxHeartbeats 4000000 in
theorem rsfold_any (A : Option Addr) (c : Nat) (l : List Pr) (cw : ByteArray) (w : World) (h : Prs w A l) (hl : l.length ≤ 100000) :
 Calls Try.prog 18 #[.slice A l.length c, .string cw] w fun e w' => ∃ v, e = .returned (.tuple #[v, .int .i64 (df cw.data.toList l).2]) ∧ w'.ownsRow w.heap.size 35 6 v (df cw.data.toList l).1.length (pcells (df cw.data.toList l).1) ∧ Below w.heap.size w w' := by
 have HN := Lib.hid h
 clear h
 go_enter Try.func18, Try.ntmps18
 go_wp2_with (fail)
 go_loopg [6, 7] l.length (fun kx s6 s7 wr => ∃ (i : Nat) (m : List Pr), i ≤ l.length ∧ l.length - i ≤ kx ∧ s7 = .int .i64 i ∧ m.length ≤ i ∧ Hid (wr.ownsRow w.heap.size 35 6 s6 m.length (pcells m)) ∧ Hid (DI cw.data.toList l i m) ∧ Hid (Below w.heap.size w wr))
 case atStart => exact ⟨0, [], Nat.zero_le _, by omega, rfl, Nat.zero_le _, World.ownsRow_nil _ _ _ _, ⟨rfl, fun h => absurd h (Nat.lt_irrefl _)⟩, Below.refl _ _⟩
 case round =>
  obtain ⟨i, m, hi, hkx, rfl, hmi, HO, HD, HB⟩ := hrel
  by_cases hlt : i < l.length
  · have hltz : (i : Int) < (l.length : Int) := by omega
    have hN2 := HN.out.next HB.out
    obtain ⟨GA, OA, rfl⟩ := hN2.shape (by omega)
    have a0 := hN2.cell (i := i) hlt 0 _ rfl
    have a1 := hN2.cell (i := i) hlt 1 _ rfl
    have a2 := hN2.cell (i := i) hlt 2 _ rfl
    have a3 := hN2.cell (i := i) hlt 3 _ rfl
    have a4 := hN2.cell (i := i) hlt 4 _ rfl
    have a5 := hN2.cell (i := i) hlt 5 _ rfl
    rw [Nat.add_zero] at a0
    obtain ⟨p, hp⟩ : ∃ p, p = pd l i := ⟨_, rfl⟩
    rw [← hp] at a0 a1 a2 a3 a4 a5
    have HP := Lib.hid hp
    clear hp
    obtain ⟨A1, c1, rfl, _, _⟩ := own_slice HO.out
    rcases Nat.eq_zero_or_pos i with h0 | h0
    · subst h0
      have HDN := Lib.hid (HD.out.new hlt (.inl rfl))
      have h00 : (((0 : Nat) : Int) == 0) = true := rfl
      clear hN2 HD
      go_wp2_with (fail)
      go_quiet (fail)
      clear a0 a1 a2 a3 a4 a5
      obtain ⟨w3, hw3⟩ : ∃ w3, w3 = wr.drewN nq := ⟨_, rfl⟩
      have HO3 : Hid (w3.ownsRow w.heap.size 35 6 (.slice A1 m.length c1) m.length (pcells m)) := by rw [hw3]; exact HO.out
      have HZ : Hid (m.length + 1 ≤ 1000000) := by show m.length + 1 ≤ 1000000; omega
      have HB3 : Hid (Below w.heap.size w w3) := by rw [hw3]; exact below_drewN HB.out nq
      have hN3 := HN.out.next HB3.out
      rw [← hw3]
      clear hw3 HO HB
      have a0 := hN3.cell (i := 0) hlt 0 _ rfl
      have a1 := hN3.cell (i := 0) hlt 1 _ rfl
      have a2 := hN3.cell (i := 0) hlt 2 _ rfl
      have a3 := hN3.cell (i := 0) hlt 3 _ rfl
      have a4 := hN3.cell (i := 0) hlt 4 _ rfl
      have a5 := hN3.cell (i := 0) hlt 5 _ rfl
      rw [← HP.out] at a0 a1 a2 a3 a4 a5
      rw [Nat.add_zero] at a0
      clear hN3
      go_wp2_with (at_builtin; refine wp_append_part rfl _ _ rfl w.heap.size _ m rfl (HO3.out.alloc _) (some ⟨w3.heap.size, 0, none⟩, 1, [p]) (own_lit w3 p) rfl HZ.out (Nat.le_trans HB3.out.size (by simp)) ?_)
      clear a0 a1 a2 a3 a4 a5
      intro v' w4 hown hgrow
      have HB4 := Lib.hid ((HB3.out.alloc HB3.out.size _).grown hgrow (Nat.le_trans HB3.out.size (by simp)) (fun g e => (HO3.out.lt g e).1))
      have HO4 : Hid (w4.ownsRow w.heap.size 35 6 v' (m ++ [p]).length (pcells (m ++ [p]))) := by rw [List.length_append]; exact hown
      rw [← HP.out] at HDN
      clear hown hgrow HO3 HB3
      go_wp2_with (fail)
      go_roundg (l.length - (0 + 1))
      case measure => omega
      case rel => exact ⟨0 + 1, m ++ [p], by omega, Nat.le_refl _, by go_num, by rw [List.length_append]; simp only [List.length_cons, List.length_nil]; omega, HO4, HDN, HB4⟩
    · obtain ⟨j, hji⟩ : ∃ j, j + 1 = i := ⟨i - 1, by omega⟩
      have h00 : ((i : Int) == 0) = false := beq_eq_false_iff_ne.2 (by omega)
      have b0 := hN2.cell (i := j) (by omega) 0 _ rfl
      rw [Nat.add_zero] at b0
      have e2 : (i : Int) - 1 = (j : Int) := by omega
      have hjl : (j : Int) < (l.length : Int) := by omega
      have HLAST := Lib.hid (HD.out.last (by omega))
      have HJI := Lib.hid hji
      clear hN2 hji h0
      by_cases hkk : p.1 = (pd l j).1
      · obtain ⟨m', q, rfl, hq⟩ := HLAST.out
        rw [show i - 1 = j by have := HJI.out; omega] at hq
        have hcmp : ((tx p.1).toList == (tx (pd l j).1).toList) = true := by rw [hkk]; exact beq_self_eq_true _
        have HQK : Hid (q.1 = p.1) := by rw [hq]; exact hkk.symm
        generalize tx (pd l j).1 = s0 at *
        clear hkk hq
        go_wp2_with (fail)
        go_quiet (fail)
        clear a0 a1 a2 a3 a4 a5 b0 hcmp e2 hjl h00
        obtain ⟨w3, hw3⟩ : ∃ w3, w3 = wr.drewN nq := ⟨_, rfl⟩
        have HO3 : Hid (w3.ownsRow w.heap.size 35 6 (.slice A1 (m' ++ [q]).length c1) (m' ++ [q]).length (pcells (m' ++ [q]))) := by rw [hw3]; exact HO.out
        have HB3 : Hid (Below w.heap.size w w3) := by rw [hw3]; exact below_drewN HB.out nq
        rw [← hw3]
        clear hw3 HO HB
        obtain ⟨k, hk⟩ : ∃ k, k = m'.length := ⟨_, rfl⟩
        have hml : (m' ++ [q]).length = k + 1 := by rw [hk]; simp
        rw [hml] at HO3 ⊢
        obtain ⟨g, cap, e⟩ := own_succ HO3.out
        injection e with e1 e2 e3
        subst e1; subst e3
        clear e2
        obtain ⟨n, hn⟩ : ∃ n, n = k + 1 := ⟨_, rfl⟩
        rw [← hn] at HO3 hml ⊢
        have HML := Lib.hid hml; have HK := Lib.hid hk; have HNK := Lib.hid hn
        clear hml hk hn
        go_upto_region 7 with fail
        have HFO := Lib.hid (fun W => rfold_va cw q.2 p.2 W)
        have HOL := Lib.hid (HD.out.old hlt (by rw [HQK.out, HP.out]))
        have HER := Lib.hid (HD.out.err hlt (by rw [HQK.out, HP.out]))
        rw [← HP.out] at HOL HER
        unfold wcl at HFO
        obtain ⟨r, hr⟩ : ∃ r, r = fo cw.data.toList q.2 p.2 := ⟨_, rfl⟩
        rw [← hr] at HFO HOL HER
        clear hr HD HLAST
        have hG := (holds_of_own HO3.out HML.out.symm).2.2
        have hPL := HN.out.next HB3.out
        have e2 : (n : Int) - 1 = (k : Int) := by have := HNK.out; omega
        have hkb : k ≤ 100000 := by have h1 := HML.out; have h2 := HNK.out; rw [h1] at hmi; omega
        have hk1 : (k : Int) < (n : Int) := by have := HNK.out; omega
        have hkl : k < (m' ++ [q]).length := by rw [HML.out, HNK.out]; omega
        have hqk : pd (m' ++ [q]) k = q := by rw [HK.out, pd_at (by simp)]; simp
        have q1 := (holds_cell hG (i := k) (j := 1) hkl rfl).1
        have q2 := (holds_cell hG (i := k) (j := 2) hkl rfl).1
        have q3 := (holds_cell hG (i := k) (j := 3) hkl rfl).1
        have q4 := (holds_cell hG (i := k) (j := 4) hkl rfl).1
        have q5 := (holds_cell hG (i := k) (j := 5) hkl rfl).1
        rw [hqk] at q1 q2 q3 q4 q5
        have a1 := hPL.cell (i := i) hlt 1 _ rfl
        have a2 := hPL.cell (i := i) hlt 2 _ rfl
        have a3 := hPL.cell (i := i) hlt 3 _ rfl
        have a4 := hPL.cell (i := i) hlt 4 _ rfl
        have a5 := hPL.cell (i := i) hlt 5 _ rfl
        rw [← HP.out] at a1 a2 a3 a4 a5
        have CK : Hid (∀ X, Below w3.heap.size w3 X → (X.cell? ⟨g, k * 6 + 1, none⟩ = some (.int .i64 q.2.k) ∧ X.cell? ⟨g, k * 6 + 2, none⟩ = some (.int .i64 q.2.n) ∧ X.cell? ⟨g, k * 6 + 3, none⟩ = some (.string (tx q.2.s)) ∧ X.cell? ⟨g, k * 6 + 4, none⟩ = some (.int .i64 q.2.x) ∧ X.cell? ⟨g, k * 6 + 5, none⟩ = some (.int .i64 q.2.y) ∧ X.cell? ⟨GA, OA + i * 6 + 1, none⟩ = some (.int .i64 p.2.k) ∧ X.cell? ⟨GA, OA + i * 6 + 2, none⟩ = some (.int .i64 p.2.n) ∧ X.cell? ⟨GA, OA + i * 6 + 3, none⟩ = some (.string (tx p.2.s)) ∧ X.cell? ⟨GA, OA + i * 6 + 4, none⟩ = some (.int .i64 p.2.x) ∧ X.cell? ⟨GA, OA + i * 6 + 5, none⟩ = some (.int .i64 p.2.y))) := fun X h => ⟨(h.cell (block_lt_of_cell q1)).trans q1, (h.cell (block_lt_of_cell q2)).trans q2, (h.cell (block_lt_of_cell q3)).trans q3, (h.cell (block_lt_of_cell q4)).trans q4, (h.cell (block_lt_of_cell q5)).trans q5, (h.cell (block_lt_of_cell a1)).trans a1, (h.cell (block_lt_of_cell a2)).trans a2, (h.cell (block_lt_of_cell a3)).trans a3, (h.cell (block_lt_of_cell a4)).trans a4, (h.cell (block_lt_of_cell a5)).trans a5⟩
        have hS3 := HB3.out.size
        have hg3 : g < w3.heap.size := (HO3.out.lt g rfl).2
        have hGA : GA < w3.heap.size := block_lt_of_cell a1
        clear hG hPL hqk hkl
        go_cut [8, 9] from 39 to 55 (fun s8 s9 wx => ∃ b1 : Nat, s8 = .pointer (some ⟨b1, 0, none⟩) ∧ s9 = .int .i64 r.2 ∧ Hid (Below w.heap.size w wx) ∧ Hid (Blk wx b1 (wcl r.1)) ∧ Hid (wx.ownsRow w.heap.size 35 6 (.slice (some ⟨g, 0, none⟩) n c1) n (pcells (m' ++ [q]))) ∧ Hid (g < b1))
        case first =>
         have hw1 : IntKind.i64.wrap ((n : Int) - 1) = (k : Int) := by rw [e2, IntKind.wrap_i64]; omega
         have hw2 : IntKind.i64.wrap (k : Int) = (k : Int) := by rw [IntKind.wrap_i64]; omega
         have hw3 : (0 : Int) ≤ (k : Int) := by omega
         go_region_held3 (fun w' => w'.cell? ⟨g, k * 6 + 1, none⟩ = some (.int .i64 q.2.k) ∧ w'.cell? ⟨g, k * 6 + 2, none⟩ = some (.int .i64 q.2.n) ∧ w'.cell? ⟨g, k * 6 + 3, none⟩ = some (.string (tx q.2.s)) ∧ w'.cell? ⟨g, k * 6 + 4, none⟩ = some (.int .i64 q.2.x) ∧ w'.cell? ⟨g, k * 6 + 5, none⟩ = some (.int .i64 q.2.y) ∧ w'.cell? ⟨GA, OA + i * 6 + 1, none⟩ = some (.int .i64 p.2.k) ∧ w'.cell? ⟨GA, OA + i * 6 + 2, none⟩ = some (.int .i64 p.2.n) ∧ w'.cell? ⟨GA, OA + i * 6 + 3, none⟩ = some (.string (tx p.2.s)) ∧ w'.cell? ⟨GA, OA + i * 6 + 4, none⟩ = some (.int .i64 p.2.x) ∧ w'.cell? ⟨GA, OA + i * 6 + 5, none⟩ = some (.int .i64 p.2.y)) (go_keep)
          (first
          | (go_at_call 29
             refine (HFO.out (w3.drewN 1)).mono ?_
             rintro e w4 ⟨rfl, hb⟩
             have hk4 : Below w3.heap.size w3 w4 := Below.next (below_drewN (Below.refl _ _) 1) hb
             have HB4 := Lib.hid (Below.next HB3.out hk4)
             have HO4 := Lib.hid (own_keep HO3.out hk4)
             have HL4 : Hid (g < w4.heap.size) := Lib.hid (Nat.lt_of_lt_of_le (HO3.out.lt g rfl).2 hk4.size)
             have hg4 : g < w4.heap.size := Nat.lt_of_lt_of_le hg3 hk4.size
             have hGA4 : GA < w4.heap.size := Nat.lt_of_lt_of_le hGA hk4.size
             obtain ⟨m1, m2, m3, m4, m5, n1, n2, n3, n4, n5⟩ := CK.out w4 hk4
             clear hb hk4)
          | (go_at_call 29
             refine (HFO.out ((w3.drewN 1).alloc (.cells #[.int .i64 0, .int .i64 0, .string ⟨#[]⟩, .int .i64 0, .int .i64 0] 33))).mono ?_
             rintro e w4 ⟨rfl, hb⟩
             have hk4 : Below w3.heap.size w3 w4 := Below.next ((below_drewN (Below.refl _ _) 1).alloc (Nat.le_refl _) (.cells #[.int .i64 0, .int .i64 0, .string ⟨#[]⟩, .int .i64 0, .int .i64 0] 33)) hb
             have HB4 := Lib.hid (Below.next HB3.out hk4)
             have HO4 := Lib.hid (own_keep HO3.out hk4)
             have HL4 : Hid (g < w3.heap.size) := Lib.hid (HO3.out.lt g rfl).2
             have HZ4 : Hid (Blk w4 w3.heap.size [.int .i64 0, .int .i64 0, .string ⟨#[]⟩, .int .i64 0, .int .i64 0]) := (Blk.made (w3.drewN 1) 33 [.int .i64 0, .int .i64 0, .string ⟨#[]⟩, .int .i64 0, .int .i64 0] rfl).next hb
             have z0 := HZ4.out.c 0 _ rfl; have z1 := HZ4.out.c 1 _ rfl; have z2 := HZ4.out.c 2 _ rfl; have z3 := HZ4.out.c 3 _ rfl; have z4 := HZ4.out.c 4 _ rfl
             have y0 := HZ4.out.f 0 _ rfl; have y1 := HZ4.out.f 1 _ rfl; have y2 := HZ4.out.f 2 _ rfl; have y3 := HZ4.out.f 3 _ rfl; have y4 := HZ4.out.f 4 _ rfl
             have zl := HZ4.out.lt
             have zn1 : ¬ w3.heap.size = g := by omega
             have zn2 : ¬ w3.heap.size = GA := by omega
             have zn3 : ¬ g = w3.heap.size := by omega
             have zn4 : ¬ GA = w3.heap.size := by omega
             obtain ⟨m1, m2, m3, m4, m5, n1, n2, n3, n4, n5⟩ := CK.out w4 hk4
             clear hb hk4))
         all_goals (rename_i hHd; clear hHd hw1 hw2 hw3)
         all_goals go_wp2_with fail
         all_goals go_meet
         · exact ⟨w4.heap.size, rfl, rfl, Below.next HB4.out (box1 w4 _), Blk.made w4 33 (wcl r.1) rfl, own_keep HO4.out (box1 w4 _), HL4.out⟩
         · exact ⟨w3.heap.size, rfl, rfl, below5 HB4.out hS3 r.1, set5 HZ4.out r.1, own_kp HO4.out (kp5 (O := fun b => b = w3.heap.size) (Kp.refl _ _) rfl r.1) (fun g' e h => by have e' : some g = some g' := e; injection e' with e'; have := HL4.out; omega), HL4.out⟩
        case rest =>
         obtain ⟨b1, rfl, rfl, HB5, HE5, HO5, HL5⟩ := hcut
         generalize wc = w5 at *
         clear CK hS3 hg3 hGA HFO HB3 HO3
         by_cases hr0 : r.2 = 0
         · have hz : (r.2 != 0) = false := by simp [hr0]
           have HDN := Lib.hid (HOL.out hr0)
           clear HER HOL
           have v0 := HE5.out.c 0 _ rfl; have v1 := HE5.out.c 1 _ rfl; have v2 := HE5.out.c 2 _ rfl; have v3 := HE5.out.c 3 _ rfl; have v4 := HE5.out.c 4 _ rfl
           have hG := (holds_of_own HO5.out HML.out.symm).2.2
           have hkl : k < (m' ++ [q]).length := by rw [HML.out, HNK.out]; omega
           obtain ⟨q1, f1⟩ := holds_cell hG (i := k) (j := 1) hkl rfl
           obtain ⟨q2, f2⟩ := holds_cell hG (i := k) (j := 2) hkl rfl
           obtain ⟨q3, f3⟩ := holds_cell hG (i := k) (j := 3) hkl rfl
           obtain ⟨q4, f4⟩ := holds_cell hG (i := k) (j := 4) hkl rfl
           obtain ⟨q5, f5⟩ := holds_cell hG (i := k) (j := 5) hkl rfl
           clear hG hkl
           go_wp2_with (fail)
           have hO6 := ((((HO5.out.stored (k * 6 + 1) (.int .i64 r.1.k)).1.stored (k * 6 + 1 + 1) (.int .i64 r.1.n)).1.stored (k * 6 + 1 + 2) (.string (tx r.1.s))).1.stored (k * 6 + 1 + 3) (.int .i64 r.1.x)).1.stored (k * 6 + 1 + 4) (.int .i64 r.1.y)
           have hO7 := hO6.1
           rw [HK.out, ← pcells_set5, ← HK.out] at hO7
           have hgl := (HO5.out.lt g rfl).1
           have HB6 := Lib.hid (((((HB5.out.setCell (p := ⟨g, k * 6 + 1, none⟩) hgl (.int .i64 r.1.k)).setCell (p := ⟨g, k * 6 + 1 + 1, none⟩) hgl (.int .i64 r.1.n)).setCell (p := ⟨g, k * 6 + 1 + 2, none⟩) hgl (.string (tx r.1.s))).setCell (p := ⟨g, k * 6 + 1 + 3, none⟩) hgl (.int .i64 r.1.x)).setCell (p := ⟨g, k * 6 + 1 + 4, none⟩) hgl (.int .i64 r.1.y))
           have HO7 := Lib.hid hO7
           have hnl : (m' ++ [(q.1, r.1)]).length = n := by rw [← HML.out]; simp
           rw [← hnl] at HO7 ⊢
           go_roundg (l.length - (i + 1))
           case measure => omega
           case rel => exact ⟨i + 1, m' ++ [(q.1, r.1)], by omega, Nat.le_refl _, by go_num, by have := HML.out; rw [this] at hmi; omega, HO7, HDN, HB6⟩
         · have hz : (r.2 != 0) = true := by simp [hr0]
           have HDE := Lib.hid (HER.out hr0)
           clear HER HOL
           go_wp2_with (fail)
           go_ret2
           rw [HDE.out]
           exact ⟨_, rfl, World.ownsRow_nil _ _ _ _, HB5.out⟩
      · have hcmp : ((tx p.1).toList == (tx (pd l j).1).toList) = false := tx_ne hkk
        have HDN := Lib.hid (HD.out.new hlt (.inr (by rw [← HP.out, show i - 1 = j by have := HJI.out; omega]; exact hkk)))
        clear hkk HD HLAST
        generalize tx (pd l j).1 = s0 at *
        go_wp2_with (fail)
        go_quiet (fail)
        clear a0 a1 a2 a3 a4 a5 b0
        obtain ⟨w3, hw3⟩ : ∃ w3, w3 = wr.drewN nq := ⟨_, rfl⟩
        have HO3 : Hid (w3.ownsRow w.heap.size 35 6 (.slice A1 m.length c1) m.length (pcells m)) := by rw [hw3]; exact HO.out
        have HZ : Hid (m.length + 1 ≤ 1000000) := by show m.length + 1 ≤ 1000000; omega
        have HB3 : Hid (Below w.heap.size w w3) := by rw [hw3]; exact below_drewN HB.out nq
        have hN3 := HN.out.next HB3.out
        rw [← hw3]
        clear hw3 HO HB
        have a0 := hN3.cell (i := i) hlt 0 _ rfl
        have a1 := hN3.cell (i := i) hlt 1 _ rfl
        have a2 := hN3.cell (i := i) hlt 2 _ rfl
        have a3 := hN3.cell (i := i) hlt 3 _ rfl
        have a4 := hN3.cell (i := i) hlt 4 _ rfl
        have a5 := hN3.cell (i := i) hlt 5 _ rfl
        rw [← HP.out] at a0 a1 a2 a3 a4 a5
        rw [Nat.add_zero] at a0
        clear hN3
        go_wp2_with (at_builtin; refine wp_append_part rfl _ _ rfl w.heap.size _ m rfl (HO3.out.alloc _) (some ⟨w3.heap.size, 0, none⟩, 1, [p]) (own_lit w3 p) rfl HZ.out (Nat.le_trans HB3.out.size (by simp)) ?_)
        clear a0 a1 a2 a3 a4 a5
        intro v' w4 hown hgrow
        have HB4 := Lib.hid ((HB3.out.alloc HB3.out.size _).grown hgrow (Nat.le_trans HB3.out.size (by simp)) (fun g e => (HO3.out.lt g e).1))
        have HO4 : Hid (w4.ownsRow w.heap.size 35 6 v' (m ++ [p]).length (pcells (m ++ [p]))) := by rw [List.length_append]; exact hown
        rw [← HP.out] at HDN
        clear hown hgrow HO3 HB3
        go_wp2_with (fail)
        go_roundg (l.length - (i + 1))
        case measure => omega
        case rel => exact ⟨i + 1, m ++ [p], by omega, Nat.le_refl _, by go_num, by rw [List.length_append]; simp only [List.length_cons, List.length_nil]; omega, HO4, HDN, HB4⟩
  · obtain rfl : i = l.length := by omega
    have hltz : ¬ (l.length : Int) < (l.length : Int) := by omega
    have hdf := HD.out.df
    rw [List.take_length] at hdf
    go_wp2_with (fail)
    go_ret2
    exact ⟨_, rfl, HO.out, HB.out⟩
end Go.Proofs.Ytamhfjlffacakaa.So

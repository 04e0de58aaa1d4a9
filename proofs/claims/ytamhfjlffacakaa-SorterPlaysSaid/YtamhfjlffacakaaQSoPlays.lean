/-
  A text of this claim: SoPlays.
-/
import Derived.Test.YtamhfjlffacakaaQ6
import Derived.Test.YtamhfjlffacakaaQ4
import Derived.Test.YtamhfjlffacakaaQSoPutS
import Derived.Test.YtamhfjlffacakaaQ1
namespace Go.Proofs.Ytamhfjlffacakaa.So
open Go.ChangeShapes Go.WideShapes Go.ChangeAt Go.RowKit Go.Sort Go.Shelf Go.Proofs Ov Va St Pr
def fr (l : List Pr) (i : Nat) : List Pr := (l.take i).filter rp
theorem fr_yes {l : List Pr} {i : Nat} (h : i < l.length) (hp : rp (pd l i) = true) : fr l (i + 1) = fr l i ++ [pd l i] := by
 unfold fr; rw [take_snoc l i h, List.filter_append]; simp [hp]
theorem fr_no {l : List Pr} {i : Nat} (h : i < l.length) (hp : rp (pd l i) = false) : fr l (i + 1) = fr l i := by
 unfold fr; rw [take_snoc l i h, List.filter_append]; simp [hp]
theorem fr_len (l : List Pr) (i : Nat) : (fr l i).length ≤ l.length := by
 unfold fr
 exact Nat.le_trans (List.length_filter_le _ _) (by rw [List.length_take]; omega)
structure LI (w1 : World) (b room : Nat) (m : List Pr) (v : Value) (q : Nat) (vi vl : Value) (ps : List Part) (wr : World) : Prop where
 ss : SS wr w1.heap.size b room m q vi vl ps
 row : wr.ownsRow w1.heap.size 35 6 v m.length (pcells m)
 dj : ∀ g, v.ownBlock = some g → ¬ sA b vi vl ps g
 b : Below w1.heap.size w1 wr
theorem SS.sA_lt {w : World} {lo b room q : Nat} {l : List Pr} {vi vl : Value} {ps : List Part} (h : SS w lo b room l q vi vl ps) : ∀ c, sA b vi vl ps c → c < w.heap.size := fun c e => by
 rcases e with e | ⟨x, hx, o, e⟩
 · exact (h.old c e).2
 · exact (h.o x hx).1.lt c o e
theorem LI.next {w1 wr w2 : World} {b room q : Nat} {m : List Pr} {v vi vl : Value} {ps : List Part} (h : LI w1 b room m v q vi vl ps wr) (k : Below wr.heap.size wr w2) : LI w1 b room m v q vi vl ps w2 :=
 ⟨h.ss.next k, own_keep h.row k, h.dj, Below.next h.b k⟩
theorem LI.more {w1 wr w2 : World} {b room q : Nat} {m : List Pr} {v vi vl vi' vl' : Value} {ps ps' : List Part} (h : LI w1 b room m v q vi vl ps wr) (k : Kp (sO b vi vl) wr w2) (hA : ∀ c, sA b vi' vl' ps' c → sA b vi vl ps c ∨ wr.heap.size ≤ c) :
 w2.ownsRow w1.heap.size 35 6 v m.length (pcells m) ∧ Below w1.heap.size w1 w2 ∧ ∀ g, v.ownBlock = some g → ¬ sA b vi' vl' ps' g := by
 refine ⟨own_kp h.row k fun g e e' => h.dj g e (.inl e'), h.b.trans (k.below (fun c e => (h.ss.old c e).1) h.b.size), fun g e e' => ?_⟩
 rcases hA g e' with h' | h'
 · exact h.dj g e h'
 · have := (own_lt h.row e).2; omega
theorem LI.grow {w1 w2 w3 : World} {b room q : Nat} {m m' : List Pr} {v v' vi vl : Value} {ps : List Part} (hs : SS w2 w1.heap.size b room m' q vi vl ps) (hr : w2.ownsRow w1.heap.size 35 6 v m.length (pcells m)) (hb : Below w1.heap.size w1 w2) (hd : ∀ g, v.ownBlock = some g → ¬ sA b vi vl ps g)
 (hr' : w3.ownsRow w1.heap.size 35 6 v' m'.length (pcells m')) (hg : w2.grownBy w3 v.ownBlock) (hat : v'.ownBlock = v.ownBlock ∨ v'.ownBlock = some w2.heap.size) : LI w1 b room m' v' q vi vl ps w3 := by
 have hk : Kp (fun c => v.ownBlock = some c) w2 w3 := (Kp.refl _ w2).grown hg fun b e => .inl e
 refine ⟨hs.kp hk (fun c e e' => hd c e' (.inl e)) (fun x hx g o e e' => hd g e' (.inr ⟨x, hx, o, e⟩)), hr', fun g e e' => ?_, hb.trans (hk.below (fun c e => (own_lt hr e).1) hb.size)⟩
 rcases hat with h | h
 · exact hd g (by rw [← h]; exact e) e'
 · rw [h] at e
   injection e with e
   have := hs.sA_lt g e'; omega
structure PJ (w7 : World) (b8 k : Nat) (O : Nat → Prop) (X : World) : Prop where
 kp : Kp (fun b => b = b8 ∨ w7.heap.size ≤ b) w7 X
 n : Blk X b8 [.int .i64 k]
 o : ∀ b, O b → w7.heap.size ≤ b ∧ b < X.heap.size
 lt : b8 < w7.heap.size
theorem PJ.step {w7 X Y : World} {b8 k : Nat} {O O' : Nat → Prop} (h : PJ w7 b8 k O X) (q : Kp O X Y) (ho : ∀ b, O' b → b < Y.heap.size ∧ (O b ∨ X.heap.size ≤ b)) : PJ w7 b8 k O' Y :=
 ⟨h.kp.trans q fun b e => .inr (h.o b e).1, h.n.kp q fun e => by have := (h.o b8 e).1; have := h.lt; omega, fun b e => ⟨by
  rcases (ho b e).2 with h' | h'
  · exact (h.o b h').1
  · have := h.kp.size; omega, (ho b e).1⟩, h.lt⟩
theorem not_eight {w7 : World} {b8 B o : Nat} {T : TypeId} {v : Value} (h : w7.heap[b8]? = some (.cells #[.int .i64 0] T)) (hc : w7.cell? ⟨B, o, none⟩ = some v) (hv : v ≠ .int .i64 0) : B ≠ b8 := fun e => by
 subst e
 unfold World.cell? at hc
 rw [h] at hc
 have hc' : (#[Value.int .i64 0] : Array Value)[o]? = some v := hc
 rcases o with _ | o
 · exact hv (Option.some.inj hc').symm
 · simp at hc'
theorem prs_kp8 {w7 X : World} {b8 : Nat} {T : TypeId} {A : Option Addr} {l : List Pr} (h : Prs w7 A l) (h8 : w7.heap[b8]? = some (.cells #[.int .i64 0] T)) (k : Kp (fun b => b = b8 ∨ w7.heap.size ≤ b) w7 X) : Prs X A l := fun h0 => by
 obtain ⟨B, O, e, hc⟩ := h h0
 have hne := not_eight h8 (hc 0 0 (.string (tx (pd l 0).1)) h0 rfl) (fun e => by cases e)
 refine ⟨B, O, e, fun i j v hi hv => ?_⟩
 have hcell := hc i j v hi hv
 have hl := block_lt_of_cell hcell
 exact (k.cell (p := ⟨B, O + i * 6 + j, none⟩) (fun e => e.elim hne fun e => by dsimp only at e hl; omega) hl).trans hcell
theorem lln_kp8 {w7 X : World} {b8 : Nat} {T : TypeId} {A : Option Addr} {qs : List Part} (h : LlN w7 A qs) (h8 : w7.heap[b8]? = some (.cells #[.int .i64 0] T)) (k : Kp (fun b => b = b8 ∨ w7.heap.size ≤ b) w7 X) : LlN X A qs := fun i hi => by
 obtain ⟨B, O, e, hc, hp⟩ := h i hi
 have hne := not_eight h8 hc (fun e => by cases e)
 have hl := block_lt_of_cell hc
 exact ⟨B, O, e, (k.cell (p := ⟨B, O + i, none⟩) (fun e => e.elim hne fun e => by dsimp only at e hl; omega) hl).trans hc, prs_kp8 hp.1 h8 k, hp.2⟩
attribute [local go_sem] Oper.semAt_some
set_option maxRecDepth 100000 in
set_option maxHeartbeats 8000000 in
theorem plays_core (A : Option Addr) (c : Nat) (l : List Pr) (room : Int) (stop : Nat) (w : World) (h : PIn w (A, c, l)) (hlc : l.length ≤ c) (hs : stop ≤ 255) :
 Calls Try.prog 3 #[.slice A l.length c, .int .i64 room, .int .u8 stop] w (Gives (.bool true) w) := by
 have HI := Lib.hid h
 clear h
 have H5 := Lib.hid ((Blk.made w 5 [.int .u8 stop] rfl).old (.cells #[.bool false] 4))
 have H6 := Lib.hid (Blk.made (w.alloc (.cells #[.int .u8 stop] 5)) 4 [.bool false] (World.size_alloc _ _))
 have HB := Lib.hid (box2 w (.cells #[.int .u8 stop] 5) (.cells #[.bool false] 4))
 refine (callsIn_wide (n := 9)).1 ?_
 refine callsIn_of_wp_marks Try.func3 rfl trivial ?_ rfl
 simp only [Try.ntmps3, List.size_toArray, List.length_cons, List.length_nil, Nat.reduceAdd, Nat.reduceSub, Array.replicate_succ, Array.replicate_zero, List.push_toArray, List.append_toArray, List.nil_append, List.cons_append]
 refine wpIn_wide.2 ?_
 obtain ⟨b5, e5⟩ : ∃ b, b = w.heap.size := ⟨_, rfl⟩
 obtain ⟨b6, e6⟩ : ∃ b, b = w.heap.size + 1 := ⟨_, rfl⟩
 have HN := Lib.hid (show w.heap.size ≤ b5 ∧ b5 < b6 by omega)
 rw [← e5] at H5
 rw [← e6] at H6
 go_wp2_with (fail)
 rw [← e6, ← e5]
 clear e5 e6
 generalize (w.alloc (.cells #[.int .u8 stop] 5)).alloc (.cells #[.bool false] 4) = w0 at *
 refine (awake12_any w0).mono ?_
 rintro e a1 ⟨rfl, hb⟩
 replace H5 := Lib.hid (H5.out.next hb); replace H6 := Lib.hid (H6.out.next hb); replace HB := Lib.hid (Below.next HB.out hb); clear hb
 have hsm := small_any A c l a1 (HI.out.next HB.out).1
 go_wp2_with (fail)
 refine hsm.mono ?_
 rintro e a2 ⟨q0, rfl, hb, hq⟩
 replace H5 := Lib.hid (H5.out.next hb); replace H6 := Lib.hid (H6.out.next hb); replace HB := Lib.hid (Below.next HB.out hb); clear hb hsm
 rcases hq with rfl | ⟨rfl, hl, hx⟩
 · go_wp2_with (fail)
   refine (awake12_any a2).mono ?_
   rintro e a3 ⟨rfl, hb⟩
   replace H6 := Lib.hid (H6.out.next hb); replace HB := Lib.hid (Below.next HB.out hb); clear hb
   have c6 := H6.out.c 0 _ rfl; have f6 := H6.out.f 0 _ rfl
   have z6 := (H6.out.set 0 (.bool true)).c 0 _ rfl
   have HZ := Lib.hid (HB.out.setCell (p := ⟨b6, 0, none⟩) (show w.heap.size ≤ b6 by have := HN.out; omega) (.bool true))
   go_wp2_with (fail)
   exact ⟨_, by simp [results, Try.results3, go_sem, z6], rfl, HZ.out⟩
 have HX : Hid (Tx l) := fun p hp => by have := hx p hp; omega
 clear hx
 by_cases hro : 1 ≤ room ∧ room ≤ 4096
 case neg =>
  have hnw := new_no room hro a2
  go_wp2_with (fail)
  refine hnw.mono ?_
  rintro e a3 ⟨rfl, hb⟩
  replace H6 := Lib.hid (H6.out.next hb); replace HB := Lib.hid (Below.next HB.out hb); clear hb hnw
  have c6 := H6.out.c 0 _ rfl; have f6 := H6.out.f 0 _ rfl
  have z6 := (H6.out.set 0 (.bool true)).c 0 _ rfl
  have HZ := Lib.hid (HB.out.setCell (p := ⟨b6, 0, none⟩) (show w.heap.size ≤ b6 by have := HN.out; omega) (.bool true))
  by_cases h1 : room < 1
  · have t1 : decide (room < 1) = true := decide_eq_true h1
    go_wp2_with (fail)
    exact ⟨_, by simp [results, Try.results3, go_sem, z6], rfl, HZ.out⟩
  · have t1 : decide (room < 1) = false := decide_eq_false h1
    have t2 : decide (4096 < room) = true := decide_eq_true (by omega)
    go_wp2_with (fail)
    exact ⟨_, by simp [results, Try.results3, go_sem, z6], rfl, HZ.out⟩
 obtain ⟨r, rfl⟩ : ∃ r : Nat, room = (r : Int) := ⟨room.toNat, by omega⟩
 have hnw := new_yes r (by omega) (by omega) a2
 have HR1 : Hid (1 ≤ r ∧ r ≤ 4096) := Lib.hid (by omega)
 have t1 : decide ((r : Int) < 1) = false := decide_eq_false (by omega)
 have t2 : decide (4096 < (r : Int)) = false := decide_eq_false (by omega)
 go_wp2_with (fail)
 refine hnw.mono ?_
 rintro e a3 ⟨rfl, hss, hb⟩
 obtain ⟨b, hbb⟩ : ∃ b, b = a2.heap.size := ⟨_, rfl⟩
 have HL0 : Hid (LI a2 b r (fr l 0) (.slice none 0 0) 0 (.slice none 0 0) (.slice none 0 0) [] a3) := ⟨by rw [hbb]; exact hss, World.ownsRow_nil _ _ _ _, (fun g e => by cases e), hb⟩
 rw [← hbb]
 clear hnw hss hb hbb
 go_wp2_with (fail)
 clear t1 t2
 go_loopg [9, 10] l.length (fun kx s9 s10 wr => ∃ (i q : Nat) (vi vl : Value) (ps : List Part), i ≤ l.length ∧ l.length - i ≤ kx ∧ s10 = .int .i64 i ∧ Hid (LI a2 b r (fr l i) s9 q vi vl ps wr))
 case atStart => exact ⟨0, 0, _, _, _, Nat.zero_le _, by omega, rfl, HL0⟩
 case round =>
  clear HL0
  obtain ⟨i, q, vi, vl, ps, hi, hkx, rfl, HL⟩ := hrel
  by_cases hlt : i < l.length
  · have hltz : (i : Int) < (l.length : Int) := by omega
    have hN2 := (HI.out.next HB.out).1.next HL.out.b
    obtain ⟨GA, OA, rfl⟩ := hN2.shape (show 0 < l.length by omega)
    have k0 := hN2.cell (i := i) hlt 0 _ rfl
    have k1 := hN2.cell (i := i) hlt 1 _ rfl
    have k2 := hN2.cell (i := i) hlt 2 _ rfl
    have k3 := hN2.cell (i := i) hlt 3 _ rfl
    have k4 := hN2.cell (i := i) hlt 4 _ rfl
    have k5 := hN2.cell (i := i) hlt 5 _ rfl
    rw [Nat.add_zero] at k0
    obtain ⟨p, hp⟩ : ∃ p, p = pd l i := ⟨_, rfl⟩
    rw [← hp] at k0 k1 k2 k3 k4 k5
    have HP := Lib.hid hp
    have HONE : Hid ((l.drop i).take 1 = [p]) := by
     show _ = _
     rw [List.drop_eq_getElem_cons hlt, hp, pd_at hlt]; rfl
    have HR := Lib.hid (fun (X : World) (hX : Below a2.heap.size a2 X) => rlright_any (some ⟨GA, OA + i * 6, none⟩) (c - i) [p] X (by
     have h1 := prs_take (prs_drop ((HI.out.next HB.out).1.next hX) i) 1
     rwa [HONE.out] at h1) (by simp))
    have hrl : rl [p] = rp p := by unfold rl; simp
    have hci : ¬ c = i := by omega
    have hi1 : ((i : Int) + 1) - (i : Int) = 1 := by omega
    have HFL : Hid ((fr l i).length ≤ 100) := Lib.hid (Nat.le_trans (fr_len l i) hl)
    clear hN2 hp
    cases hrp : rp p with
    | true =>
      rw [hrp] at hrl
      have HFR : Hid (fr l (i + 1) = fr l i ++ [p]) := by rw [HP.out]; exact fr_yes hlt (by rw [← HP.out]; exact hrp)
      have hput := put_yes p wr HL.out.ss hrl (by have := HFL.out; omega) HR1.out.1 HR1.out.2 (fun z hz => HX.out z (by
       rw [← HFR.out] at hz
       exact List.mem_of_mem_take (List.mem_filter.1 hz).1)) HL.out.b.size
      unfold PutS pcl at hput
      go_wp2_with (fail)
      refine hput.mono ?_
      rintro e w2 ⟨rfl, q', vi', vl', ps', hs', hk', hA'⟩
      obtain ⟨hr2, hb2, hd2⟩ := HL.out.more hk' hA'
      have HS2 := Lib.hid hs'; have HR2 := Lib.hid hr2; have HB2 := Lib.hid hb2; have HD2 := Lib.hid hd2
      have hrr := HR.out w2 hb2
      rw [hrl] at hrr
      clear hput hs' hk' hA' hr2 hb2 hd2 hrl k0 k1 k2 k3 k4 k5
      go_wp2_with (fail)
      refine hrr.mono ?_
      rintro e w3 ⟨rfl, hb⟩
      replace HS2 := Lib.hid (HS2.out.next hb); replace HR2 := Lib.hid (own_keep HR2.out hb); replace HB2 := Lib.hid (Below.next HB2.out hb)
      clear hb hrr HR HL
      have hN3 := (HI.out.next HB.out).1.next HB2.out
      have k0 := hN3.cell (i := i) hlt 0 _ rfl
      have k1 := hN3.cell (i := i) hlt 1 _ rfl
      have k2 := hN3.cell (i := i) hlt 2 _ rfl
      have k3 := hN3.cell (i := i) hlt 3 _ rfl
      have k4 := hN3.cell (i := i) hlt 4 _ rfl
      have k5 := hN3.cell (i := i) hlt 5 _ rfl
      rw [← HP.out] at k0 k1 k2 k3 k4 k5
      rw [Nat.add_zero] at k0
      clear hN3
      obtain ⟨Av, cv, e9, _, _⟩ := own_slice HR2.out
      subst e9
      obtain ⟨i0, hi0, hi1, hi2, hi3⟩ := info_parts infoP
      have HI0 := Lib.hid hi0; have HI1 := Lib.hid hi1; have HI2 := Lib.hid hi2; have HI3 := Lib.hid hi3
      clear hi0 hi1 hi2 hi3
      go_wp2_with (at_builtin; refine wpList_append_own_at _ rfl _ _ 22 rfl a2.heap.size 35 i0 (.agg (pcl pz).toArray) 6 64 Try.underlying22 HI0.out HI1.out HI2.out HI3.out rfl (by decide) _ _ _ rfl (own_keep HR2.out (box1 w3 (.cells (pcl p).toArray 35))) ⟨w3.heap.size, 0, none⟩ 1 1 (pcl p) rfl rfl ?c1 (pcl_one _) ?c3 ?c4 ?c5 ?_)
      case c1 =>
       intro j u hj
       rw [Addr.add_lit, Nat.zero_add]
       exact (Blk.made w3 35 (pcl p) rfl).c j u hj
      case c3 => have := HFL.out; unfold maxLen; omega
      case c4 => have := HFL.out; omega
      case c5 => have := HB2.out.size; rw [World.size_alloc]; omega
      intro v' w4 hown' hgrow _ hat
      have HLX : Hid (LI a2 b r (fr l i ++ [p]) v' q' vi' vl' ps' w4) := LI.grow (HS2.out.next (box1 w3 (.cells (pcl p).toArray 35))) (own_keep HR2.out (box1 w3 (.cells (pcl p).toArray 35))) (Below.next HB2.out (box1 w3 _)) HD2.out (by rw [List.length_append, pcells_snoc]; exact hown') hgrow (by rw [World.size_alloc]; exact hat)
      clear hown' hgrow hat k0 k1 k2 k3 k4 k5 HS2 HR2 HB2 HD2
      obtain ⟨n, hn⟩ : ∃ n, (fr l i ++ [p]).length = n := ⟨_, rfl⟩
      have HFN : Hid (n ≤ 101) := by rw [← hn, List.length_append]; have := HFL.out; show _ ≤ _; simp only [List.length_cons, List.length_nil]; omega
      have hcnt := count_any w4 HLX.out.ss (by rw [hn]; exact Nat.le_trans HFN.out (by decide)) HR1.out.2
      obtain ⟨A9, c9, e9, _, _⟩ := own_slice HLX.out.row
      subst e9
      rw [hn] at hcnt ⊢
      have hnn : ((n : Int) != (n : Int)) = false := by simp
      go_wp2_with (fail)
      refine hcnt.mono ?_
      rintro e w5 ⟨rfl, hb⟩
      have HL5 := Lib.hid (HLX.out.next hb)
      rw [← HFR.out] at HL5
      rw [← HFR.out] at hn
      clear hb hcnt HLX
      go_wp2_with (fail)
      rw [← hn]
      go_roundg (l.length - (i + 1))
      case measure => omega
      case rel => exact ⟨i + 1, q', vi', vl', ps', by omega, Nat.le_refl _, by go_num, HL5⟩
    | false =>
      rw [hrp] at hrl
      have HFR : Hid (fr l (i + 1) = fr l i) := fr_no hlt (by rw [← HP.out]; exact hrp)
      have hput := put_no (b := b) p wr hrl
      unfold pcl at hput
      go_wp2_with (fail)
      refine hput.mono ?_
      rintro e w2 ⟨rfl, hb2⟩
      have HL2 := Lib.hid (HL.out.next hb2)
      have hrr := HR.out w2 HL2.out.b
      rw [hrl] at hrr
      clear hput hb2 hrl HL k0 k1 k2 k3 k4 k5
      go_wp2_with (fail)
      refine hrr.mono ?_
      rintro e w3 ⟨rfl, hb⟩
      have HLX := Lib.hid (HL2.out.next hb)
      clear hb hrr HR HL2
      obtain ⟨n, hn⟩ : ∃ n, (fr l i).length = n := ⟨_, rfl⟩
      have HFN : Hid (n ≤ 101) := by rw [← hn]; have := HFL.out; show _ ≤ _; omega
      have hcnt := count_any w3 HLX.out.ss (by rw [hn]; exact Nat.le_trans HFN.out (by decide)) HR1.out.2
      obtain ⟨A9, c9, e9, _, _⟩ := own_slice HLX.out.row
      subst e9
      rw [hn] at hcnt ⊢
      have hnn : ((n : Int) != (n : Int)) = false := by simp
      go_wp2_with (fail)
      refine hcnt.mono ?_
      rintro e w5 ⟨rfl, hb⟩
      have HL5 := Lib.hid (HLX.out.next hb)
      rw [← HFR.out] at HL5
      rw [← HFR.out] at hn
      clear hb hcnt HLX
      go_wp2_with (fail)
      rw [← hn]
      go_roundg (l.length - (i + 1))
      case measure => omega
      case rel => exact ⟨i + 1, q, vi, vl, ps, by omega, Nat.le_refl _, by go_num, HL5⟩
  · obtain rfl : i = l.length := by omega
    have hltz : ¬ (l.length : Int) < (l.length : Int) := by omega
    obtain ⟨M, hM⟩ : ∃ M, M = fr l l.length := ⟨_, rfl⟩
    have HTM : Hid (Tx M) := fun z hz => HX.out z (by
     rw [hM] at hz
     exact List.mem_of_mem_take (List.mem_filter.1 hz).1)
    have hml : M.length ≤ 100 := by rw [hM]; exact Nat.le_trans (fr_len l _) hl
    rw [← hM] at HL
    clear hM hkx hi hlt
    have hru := runs_any wr HL.out.ss (by omega) HR1.out.1 HTM.out
    obtain ⟨A9, c9, e9, hc9, hn9⟩ := own_slice HL.out.row
    subst e9
    have HPM : Hid (PIn wr (A9, c9, M)) := ⟨prs_own HL.out.row rfl, fun e => ⟨List.eq_nil_of_length_eq_zero (hn9 e).1, (hn9 e).2⟩⟩
    have HQ1 := Lib.hid HL.out.ss.q1; have HQ2 := Lib.hid HL.out.ss.q2
    clear hn9
    go_wp2_with (fail)
    refine hru.mono ?_
    rintro e w2 ⟨v1, qs1, rfl, hrow1, hall1, hrs1, hb⟩
    have HW1 := Lib.hid hrow1; have HA1 := Lib.hid hall1; have HS1 := Lib.hid hrs1
    replace HL := Lib.hid (HL.out.next hb); replace HPM := Lib.hid (HPM.out.next hb)
    have HRL : Hid (∀ x ∈ qs1, x.2.2.length ≤ M.length) := fun x hx => by
     have hF := rsE_facts HQ1.out HQ2.out HR1.out.1
     have h1 : x.2.2 ∈ rsE r M q := by rw [← hrs1]; exact List.mem_map.2 ⟨x, hx, rfl⟩
     obtain ⟨s, t, e⟩ := List.append_of_mem h1
     have h2 := hF.all
     rw [e, List.flatten_append, List.length_append, List.flatten_cons, List.length_append] at h2
     omega
    clear hru hrow1 hall1 hrs1 hb
    have hdr := rruns_any A9 c9 M r q w2 HPM.out hc9 (by omega) HR1.out.1 HR1.out.2 HQ1.out HQ2.out
    go_wp2_with (fail)
    refine hdr.mono ?_
    rintro e w3 ⟨v2, qs2, rfl, hrow2, hall2, hrs2, hb⟩
    have HW2 := Lib.hid hrow2; have HA2 := Lib.hid hall2
    have HEQ := Lib.hid (HS1.out.trans hrs2.symm)
    have HS1Q := Lib.hid HS1.out
    replace HL := Lib.hid (HL.out.next hb); replace HPM := Lib.hid (HPM.out.next hb)
    replace HW1 := Lib.hid (own_keep HW1.out hb)
    have HA1' : Hid (∀ x ∈ qs1, PIn w3 x) := fun x hx => PIn.next ⟨(HA1.out x hx).1.prs, (HA1.out x hx).2.1⟩ hb
    clear hdr hrow2 hall2 hrs2 hb HS1 HA1
    have hlen : qs2.length = qs1.length := by
     have := congrArg List.length HEQ.out
     rw [List.length_map, List.length_map] at this
     exact this.symm
    have hnl : qs1.length ≤ 101 := by
     have h1 := congrArg List.length HS1Q.out
     rw [List.length_map] at h1
     unfold rsE at h1
     rw [List.length_append, List.length_map, List.length_range] at h1
     have h2 := Nat.mul_le_mul_left q HR1.out.1
     have h3 := HQ1.out
     have h4 : (if M.length = q * r then ([] : List (List Pr)) else [sr (M.drop (q * r))]).length ≤ 1 := by split <;> simp
     omega
    obtain ⟨n, hn⟩ : ∃ n, n = qs1.length := ⟨_, rfl⟩
    rw [← hn] at hnl
    rw [hlen] at HW2
    rw [← hn] at HW1 HW2 hlen
    have HLEN := Lib.hid hlen; have HNN := Lib.hid hn
    clear hn hlen
    obtain ⟨G1, d1, e1, _, _⟩ := own_slice HW1.out
    obtain ⟨G2, d2, e2, _, _⟩ := own_slice HW2.out
    subst e1; subst e2
    have hnn : ((n : Int) != (n : Int)) = false := by simp
    go_wp2_with (fail)
    clear hnn
    go_loopg [15] n (fun kx s15 wx => ∃ i : Nat, i ≤ n ∧ n - i ≤ kx ∧ s15 = .int .i64 i ∧ Hid (Below w3.heap.size w3 wx))
    case atStart => exact ⟨0, Nat.zero_le _, by omega, rfl, Below.refl _ _⟩
    case round =>
     obtain ⟨i, hi, hkx, rfl, HBX⟩ := hrel
     by_cases hlt : i < n
     · have hltz : (i : Int) < (n : Int) := by omega
       obtain ⟨g1, e⟩ : ∃ g, G1 = some ⟨g, 0, none⟩ := by
        rcases HW1.out.2 with ⟨_, e0⟩ | ⟨g, cap, cur, e, _⟩
        · omega
        · injection e with e1 e2 e3; exact ⟨g, e1⟩
       subst e
       obtain ⟨g2, e⟩ : ∃ g, G2 = some ⟨g, 0, none⟩ := by
        rcases HW2.out.2 with ⟨_, e0⟩ | ⟨g, cap, cur, e, _⟩
        · omega
        · injection e with e1 e2 e3; exact ⟨g, e1⟩
       subst e
       have hi1 : i < qs1.length := by have := HNN.out; omega
       have hi2 : i < qs2.length := by have := HLEN.out; omega
       have k1 : wr.cell? ⟨g1, i, none⟩ = some (pv (qd qs1 i)) := by
        rw [(own_keep HW1.out HBX.out).cellAt i (by omega)]
        unfold qd
        rw [List.getElem?_map, List.getElem?_eq_getElem hi1]; rfl
       have k2 : wr.cell? ⟨g2, i, none⟩ = some (pv (qd qs2 i)) := by
        rw [(own_keep HW2.out HBX.out).cellAt i (by omega)]
        unfold qd
        rw [List.getElem?_map, List.getElem?_eq_getElem hi2]; rfl
       have hll : (qd qs1 i).2.2 = (qd qs2 i).2.2 := by
        have h1 := congrArg (fun z => z[i]?) HEQ.out
        rw [List.getElem?_map, List.getElem?_map, List.getElem?_eq_getElem hi1, List.getElem?_eq_getElem hi2] at h1
        unfold qd
        rw [List.getElem?_eq_getElem hi1, List.getElem?_eq_getElem hi2]
        exact Option.some.inj h1
       have hp1 := (HA1'.out _ (qd_mem hi1)).next HBX.out
       have hp2 := (HA2.out _ (qd_mem hi2)).next HBX.out
       have hlz : (qd qs1 i).2.2.length ≤ 4294967296 := by
        have h1 : (qd qs1 i).2.2.length ≤ M.length := HRL.out _ (qd_mem hi1)
        omega
       obtain ⟨X, hX⟩ : ∃ X, X = qd qs1 i := ⟨_, rfl⟩
       obtain ⟨Y, hY⟩ : ∃ Y, Y = qd qs2 i := ⟨_, rfl⟩
       rw [← hX] at k1 hll hp1 hlz
       rw [← hY] at k2 hll hp2
       clear hX hY hi1 hi2
       obtain ⟨xA, xc, xl⟩ := X
       obtain ⟨yA, yc, yl⟩ := Y
       obtain rfl : xl = yl := hll
       unfold pv at k1 k2
       dsimp only at k1 k2 hlz
       have HSP : Hid (∀ Q : Over wr, Calls Try.prog 13 #[.slice xA xl.length xc, .slice yA xl.length yc] Q.val (Gives (.bool true) Q.val)) := fun Q => same_pairs xl xA yA xc yc Q.val (hp1.1.next Q.property) (hp2.1.next Q.property) hlz
       have K1 := fun Q : Over wr => over_cell Q k1
       have K2 := fun Q : Over wr => over_cell Q k2
       clear k1 k2 hp1 hp2 hlz
       generalize xl.length = nl at *
       go_upto_region 22 with fail
       refine wp_over (by kernel_rfl) (by kernel_rfl) ?_
       repeat (go_big_quiet_step (with_reducible exact over_gives _ (HSP.out _)))
       refine wpQuiet_nil ?_
       rintro wq ⟨⟨w9, hb⟩, rfl⟩
       have HB9 := Lib.hid (Below.next HBX.out hb)
       clear K1 K2 HSP hb
       go_wp2_with (fail)
       go_roundg (n - (i + 1))
       case measure => omega
       case rel => exact ⟨i + 1, by omega, Nat.le_refl _, by go_num, HB9⟩
     · obtain rfl : i = n := by omega
       have hltz : ¬ (i : Int) < (i : Int) := by omega
       clear hkx hlt
       have hso := rsort_any A9 c9 M wr (HPM.out.next HBX.out).1 (by omega)
       go_wp2_with (fail)
       refine hso.mono ?_
       rintro e w4 ⟨v4, rfl, hr, hb⟩
       obtain ⟨As, cs, rfl, hps⟩ := own_pin (l := sr M) (by rw [sr_len]; exact hr)
       have HBW := Lib.hid (Below.next HBX.out hb)
       have HPS := Lib.hid hps.1
       clear hso hr hb hps HBX HW1 HW2 HA2 HEQ HRL HA1' HPM
       rw [sr_len]
       obtain ⟨b7, e7⟩ : ∃ b, b = w4.heap.size := ⟨_, rfl⟩
       obtain ⟨b8, e8⟩ : ∃ b, b = w4.heap.size + 1 := ⟨_, rfl⟩
       obtain ⟨w6, hw6⟩ : ∃ x, x = (w4.alloc (.cells #[.slice As M.length cs] 22)).alloc (.cells #[.int .i64 0] 3) := ⟨_, rfl⟩
       have hb46 : Below w4.heap.size w4 w6 := by rw [hw6]; exact box2 w4 _ _
       have H7 : Hid (Blk w6 b7 [.slice As M.length cs]) := by rw [hw6, e7]; exact (Blk.made w4 22 [.slice As M.length cs] rfl).old _
       have H8 : Hid (w6.heap[b8]? = some (.cells #[.int .i64 0] 3) ∧ Blk w6 b8 [.int .i64 0]) := by
        rw [hw6, e8]
        refine ⟨?_, Blk.made _ 3 [.int .i64 0] (World.size_alloc _ _)⟩
        have := World.alloc_heap_new (w4.alloc (.cells #[.slice As M.length cs] 22)) (.cells #[.int .i64 0] 3)
        rwa [World.size_alloc] at this
       have HL6 := Lib.hid (HL.out.next (Below.next HBW.out hb46))
       have hal := all_any w6 HL6.out.ss (by omega) HR1.out.1 HTM.out
       have HPS6 := Lib.hid (HPS.out.next hb46)
       have HNB : Hid (b5 < a2.heap.size ∧ b6 < a2.heap.size ∧ a2.heap.size ≤ b7 ∧ b7 < b8 ∧ b8 < w6.heap.size) := by
        have h1 := H5.out.lt; have h2 := H6.out.lt; have h3 := H7.out.lt; have h4 := H8.out.2.lt
        have h5 := HL.out.b.size; have h6 := HBW.out.size
        show _ ∧ _ ∧ _ ∧ _ ∧ _
        omega
       go_wp2_with (fail)
       rw [← e8, ← e7, ← hw6]
       clear hw6 e7 e8 hb46 HL HBW HPS
       refine hal.mono ?_
       rintro e w7 ⟨bx, A1, c1, qs, rfl, hbx, hk, hln, hRk, hsr, hb⟩
       go_wp2_with (fail)
       have HW7 := Lib.hid hb.size; have HBX := Lib.hid hbx; have HRK := Lib.hid hRk; have HSR := Lib.hid hsr; have HK := Lib.hid hk; have HLN := Lib.hid hln
       have HL7 := Lib.hid (HL6.out.next hb)
       have HP7 := Lib.hid (HPS6.out.next hb)
       have HO8 : Hid (w7.heap[b8]? = some (.cells #[.int .i64 0] 3)) := (hb.block b8 HNB.out.2.2.2.2).trans H8.out.1
       have H57 : Hid (Blk w7 b5 [.int .u8 stop]) := H5.out.next HL7.out.b
       have H67 : Hid (Blk w7 b6 [.bool false]) := H6.out.next HL7.out.b
       have H77 : Hid (Blk w7 b7 [.slice As M.length cs]) := H7.out.next hb
       have HB7 : Hid (Below w.heap.size w w7) := Below.next HB.out HL7.out.b
       have HJ0 : Hid (PJ w7 b8 0 (fun _ => False) w7) := ⟨Kp.refl _ _, H8.out.2.next hb, (fun b e => e.elim), (H8.out.2.next hb).lt⟩
       have HMM : Hid (∀ k O X, PJ w7 b8 k O X → Mm bx A1 c1 qs X) := fun k O X h => ⟨(HK.out.kp h.kp fun e => by have := HNB.out; have := HBX.out; have := HK.out.lt; omega).c 0 _ rfl, lln_kp8 HLN.out HO8.out h.kp⟩
       clear hal hbx hk hln hRk hsr hb H5 H6 H7 H8 HL6 HL7 HPS6 HB HTM HR1 HQ1 HQ2 HLEN HNN HI HX
       refine (wpIn_wide (n := 9)).1 ?_
       refine wpIn_rngA (F := Fence.wide) (M := Mm bx A1 c1 qs) (Fx := fun pre x _ => ∃ rest, sr (rsOf qs).flatten = pre ++ x :: rest) (S := fun xs => xs = sr (rsOf qs).flatten) (Sp := fun pre => ∃ rest, sr (rsOf qs).flatten = pre ++ rest) rfl (by decide) (gf := 36) (lb := #[.pointer (some ⟨bx, 0, none⟩)]) rfl trivial (enters_of Try.func36 (by kernel_rfl) rfl)
        (merged1_its bx A1 c1 qs HRK.out 8) (fun _ => rfl)
        (fun pre O X => PJ w7 b8 pre.length O X) (fun _ X => Blk X b6 [.bool true] ∧ Below w.heap.size w X)
        (fun s O O' X Y h k ho => h.step k ho) (fun s O X h b hb => (h.o b hb).2) (fun s X Y h k => ⟨blk_upto h.1 k (by have := H67.out.lt; omega), h.2.trans (k.mono HB7.out.size)⟩)
        (fun s O X h => HMM.out _ _ _ h) HJ0.out (fun pre x X l o o' h _ _ => h)
        (fun x X => { tmps := #[.slice A l.length c, .int .i64 r, .int .u8 stop, undef, undef, .pointer (some ⟨b5, 0, none⟩), .pointer (some ⟨b6, 0, none⟩), .pointer (some ⟨b, 0, none⟩), .int .i64 0, .slice A9 M.length c9, .int .i64 l.length, u11, u12, .slice G1 i d1, .slice G2 i d2, .int .i64 i, .pointer (some ⟨b7, 0, none⟩), .pointer (some ⟨b8, 0, none⟩), .pointer (some ⟨X.heap.size, 0, none⟩), .bool true, .bool false, .bool false, .slice A l.length c, .int .i64 1, .bool false, .bool false, undef, .tuple #[.pointer (some ⟨b, 0, none⟩), .int .i64 0], .int .i64 r, .tuple #[.pointer (some ⟨b, 0, none⟩), .int .i64 0], .pointer (some ⟨b, 0, none⟩), .int .i64 0, .int .i64 r, .bool false, .bool false, .int .i64 r, .bool false, .bool false, undef, undef, undef, undef, undef, undef, .int .i64 l.length, .slice A l.length c, .int .i64 l.length, .bool false, u48, u49, u50, u51, u52, u53, u54, u55, u56, u57, u58, u59, u60, u61, u62, u63, u64, u65, u66, u67, u68, u69, u70, u71, u72, u73, u74, u75, u76, u77, u78, u79, u80, .pointer (some ⟨b, 0, none⟩), .slice G1 i d1, .slice A9 M.length c9, .int .i64 r, .slice G2 i d2, .slice G1 i d1, .int .i64 i, .slice G2 i d2, .int .i64 i, .bool false, .int .i64 i, .slice G1 i d1, .int .i64 i, .bool false, u95, u96, u97, u98, u99, u100, u101, u102, u103, u104, u105, u106, .slice A9 M.length c9, .slice As M.length cs, .pointer (some ⟨b, 0, none⟩), .func (.func 36) #[] #[.pointer (some ⟨bx, 0, none⟩)], .agg (pcl x).toArray, undef, undef, undef, undef, undef, undef, undef, undef, undef, undef, undef, undef, undef, undef, undef, undef, undef, undef, undef, undef, undef, undef], defers := [] })
        (fun x X => X.alloc (.cells (pcl x).toArray 35)) (fun x X => box1 X _) (fun pre x X h => h) ?assign ?body ?done ?stop
       case assign =>
        intro L x X K hK
        unfold enP pcl
        unfold pcl at hK
        gi_wp2
        exact hK
       case body =>
        intro L pre x O X V hI hx hk hlt
        obtain ⟨rest, hrest⟩ := hx
        rw [HSR.out] at hrest
        have hlen : pre.length < (sr M).length := by rw [hrest]; simp
        have hpd : pd (sr M) pre.length = x := by rw [hrest]; unfold pd; simp
        have hML : pre.length < M.length := by rw [sr_len] at hlen; exact hlen
        have hp9 : Blk V X.heap.size (pcl x) := (Blk.made X 35 (pcl x) rfl).kp hk fun e => by omega
        have hps := prs_kp8 HP7.out HO8.out hI.kp
        have hn := HNB.out
        have hw7 := HW7.out
        have h5l := H57.out.lt; have h6l := H67.out.lt; have h7l := H77.out.lt
        have h5 := H57.out.kp hI.kp fun e => by omega
        have h6 := H67.out.kp hI.kp fun e => by omega
        have h7 := H77.out.kp hI.kp fun e => by omega
        obtain ⟨GS, OS, rfl⟩ := hps.shape (by omega)
        have a0 := hps.cell hlen 0 _ rfl
        have a1 := hps.cell hlen 1 _ rfl
        have a2 := hps.cell hlen 2 _ rfl
        have a3 := hps.cell hlen 3 _ rfl
        have a4 := hps.cell hlen 4 _ rfl
        have a5 := hps.cell hlen 5 _ rfl
        rw [hpd] at a0 a1 a2 a3 a4 a5
        rw [Nat.add_zero] at a0
        have x0 := hp9.c 0 _ rfl; have x1 := hp9.c 1 _ rfl; have x2 := hp9.c 2 _ rfl; have x3 := hp9.c 3 _ rfl; have x4 := hp9.c 4 _ rfl; have x5 := hp9.c 5 _ rfl
        have c5 := h5.c 0 _ rfl; have c7 := h7.c 0 _ rfl; have c8 := hI.n.c 0 _ rfl
        have hE := fun W => neq_pairs x x W
        rw [(pne_iff x x).2 rfl] at hE
        obtain ⟨k, hkk⟩ : ∃ k, k = pre.length := ⟨_, rfl⟩
        rw [← hkk] at hI c8 a0 a1 a2 a3 a4 a5 hML
        have hge : decide ((M.length : Int) ≤ (k : Int)) = false := decide_eq_false (by omega)
        have hge2 : decide (M.length ≤ k) = false := decide_eq_false (by omega)
        have hkl : (k : Int) < (M.length : Int) := by omega
        have hkb : k ≤ 100 := by omega
        have HKK : Hid ((pre ++ [x]).length = k + 1) := by rw [List.length_append, hkk]; rfl
        have HI2 := Lib.hid hI; have H62 := Lib.hid h6; have H52 := Lib.hid h5
        have HN8 : Hid (b8 ≠ b5 ∧ b8 ≠ b6 ∧ b6 < w7.heap.size ∧ b8 < w7.heap.size ∧ w.heap.size ≤ b6 ∧ w.heap.size ≤ b8) := by
         have h1 := hI.lt; have h2 := HN.out
         show _ ∧ _ ∧ _ ∧ _ ∧ _ ∧ _
         omega
        clear hI hps hp9 h5 h6 h7 h5l h6l h7l hn hw7 hrest hlen hpd hk hlt hkk
        generalize tx x.1 = xk at *
        generalize tx x.2.s = xs at *
        dsimp only
        gi_upto_region 28 with fail
        refine region_round (F := Fence.wide) rfl (by kernel_rfl) (by kernel_rfl) (by kernel_rfl) ?_
        repeat (gi_big_quiet_step (fail))
        refine wpQuietIn_nil ?_
        rintro _ ⟨nq, rfl⟩
        clear a0 a1 a2 a3 a4 a5 x0 x1 x2 x3 x4 x5 c5 c7 c8 hE hge hge2 hkl
        have HI3 : Hid (PJ w7 b8 k O (V.drewN nq)) := HI2.out.step ((Kp.refl O V).drewN nq) fun b e => ⟨(HI2.out.o b e).2, .inl e⟩
        have H63 : Hid (Blk (V.drewN nq) b6 [.bool false]) := H62.out.next (below_drewN (Below.refl _ _) nq)
        have H53 : Hid (Blk (V.drewN nq) b5 [.int .u8 stop]) := H52.out.next (below_drewN (Below.refl _ _) nq)
        have HKP : Hid (Kp (fun b => b = b8) V ((V.drewN nq).setCell ⟨b8, 0, none⟩ (.int .i64 ((k : Int) + 1)))) := ((Kp.refl (fun b => b = b8) V).drewN nq).setCell (b := b8) rfl 0 _
        generalize V.drewN nq = W2 at *
        have g8 := HI3.out.n.c 0 _ rfl; have f8 := HI3.out.n.f 0 _ rfl
        have h8n := HI3.out.n.set 0 (.int .i64 ((k : Int) + 1))
        have h8' : Blk (W2.setCell ⟨b8, 0, none⟩ (.int .i64 ((k : Int) + 1))) b8 [.int .i64 (((pre ++ [x]).length : Nat) : Int)] := by
         rw [HKK.out, show ((k + 1 : Nat) : Int) = (k : Int) + 1 by omega]; exact h8n
        have g8' := h8n.c 0 _ rfl
        have h5' := H53.out.put (c := b8) HN8.out.1 0 (.int .i64 ((k : Int) + 1))
        have h6' := H63.out.put (c := b8) HN8.out.2.1 0 (.int .i64 ((k : Int) + 1))
        have g5' := h5'.c 0 _ rfl
        have c6' := h6'.c 0 _ rfl; have f6' := h6'.f 0 _ rfl
        have HJN : Hid (PJ w7 b8 (pre ++ [x]).length O (W2.setCell ⟨b8, 0, none⟩ (.int .i64 ((k : Int) + 1)))) :=
         ⟨HI3.out.kp.setCell (b := b8) (.inl rfl) 0 _, h8', fun b e => ⟨(HI3.out.o b e).1, by simpa using (HI3.out.o b e).2⟩, HI3.out.lt⟩
        have HFN : Hid (V.heap.size ≤ (W2.setCell ⟨b8, 0, none⟩ (.int .i64 ((k : Int) + 1))).heap.size ∧ (∀ b, O b → b < V.heap.size → (W2.setCell ⟨b8, 0, none⟩ (.int .i64 ((k : Int) + 1))).heap[b]? = V.heap[b]?) ∧ PJ w7 b8 (pre ++ [x]).length O (W2.setCell ⟨b8, 0, none⟩ (.int .i64 ((k : Int) + 1)))) :=
         ⟨HKP.out.size, fun b hb hl => HKP.out.block b hl fun e => by have := (HI3.out.o b hb).1; have := HI3.out.lt; omega, HJN.out⟩
        have HKP6 : Hid (Kp (fun b => b = b8 ∨ b = b6) V ((W2.setCell ⟨b8, 0, none⟩ (.int .i64 ((k : Int) + 1))).setCell ⟨b6, 0, none⟩ (.bool true))) := (HKP.out.mono fun b e => .inl e).setCell (b := b6) (.inr rfl) 0 _
        have HFR : Hid (V.heap.size ≤ ((W2.setCell ⟨b8, 0, none⟩ (.int .i64 ((k : Int) + 1))).setCell ⟨b6, 0, none⟩ (.bool true)).heap.size ∧ (∀ b, O b → b < V.heap.size → ((W2.setCell ⟨b8, 0, none⟩ (.int .i64 ((k : Int) + 1))).setCell ⟨b6, 0, none⟩ (.bool true)).heap[b]? = V.heap[b]?) ∧
         Blk ((W2.setCell ⟨b8, 0, none⟩ (.int .i64 ((k : Int) + 1))).setCell ⟨b6, 0, none⟩ (.bool true)) b6 [.bool true] ∧ Below w.heap.size w ((W2.setCell ⟨b8, 0, none⟩ (.int .i64 ((k : Int) + 1))).setCell ⟨b6, 0, none⟩ (.bool true))) :=
         ⟨HKP6.out.size, fun b hb hl => HKP6.out.block b hl fun e => by
          have h1 := (HI3.out.o b hb).1; have h2 := HI3.out.lt; have h3 := HN8.out
          rcases e with e | e <;> omega, h6'.set 0 _, (HB7.out.trans (HJN.out.kp.below (fun b e => by
          have h3 := HN8.out; have h4 := HB7.out.size
          rcases e with e | e <;> omega) HB7.out.size)).setCell (p := ⟨b6, 0, none⟩) HN8.out.2.2.2.2.1 _⟩
        clear h8n h8' h5' h6' HKP HKP6 HJN HI3 H63 H53 HI2 H62 H52
        by_cases hst : k + 1 = stop
        · have hz : ((k : Int) + 1 == (stop : Int)) = true := beq_iff_eq.2 (by omega)
          gi_wp2
          exact HFR.out
        · have hz : ((k : Int) + 1 == (stop : Int)) = false := beq_eq_false_iff_ne.2 (by omega)
          gi_wp2
          exact HFN.out
       case done =>
        intro D xs O X hD hS hI hd
        subst hS
        rw [HSR.out, sr_len] at hI
        have hn := HNB.out; have hN' := HN.out; have hw7 := HW7.out
        have h6l := H67.out.lt; have h7l := H77.out.lt
        have h6 := H67.out.kp hI.kp fun e => by omega
        have h7 := H77.out.kp hI.kp fun e => by omega
        have c6 := h6.c 0 _ rfl; have f6 := h6.f 0 _ rfl; have c7 := h7.c 0 _ rfl; have c8 := hI.n.c 0 _ rfl
        have z6 := (h6.set 0 (.bool true)).c 0 _ rfl
        have hne : D ≠ b6 := by omega
        have hK' : (X.setCell ⟨b6, 0, none⟩ (.bool true)).heap[D]? = some (.deferred (some [])) := (Below.heap_setCell _ _ _ _ hne).trans hd
        have z6' := cell_kept z6 (grownBy_putObj' _ D (.deferred none)) (fun r e => by cases e; exact ⟨_, hK', rfl⟩)
        have HBE : Hid (Below w.heap.size w ((X.setCell ⟨b6, 0, none⟩ (.bool true)).putObj D (.deferred none))) :=
         ((HB7.out.trans (hI.kp.below (fun b e => by
           have h4 := HB7.out.size
           rcases e with e | e <;> omega) HB7.out.size)).setCell (p := ⟨b6, 0, none⟩) (show w.heap.size ≤ b6 by omega) _).trans (below_put (.deferred none) (by have := HB7.out.size; omega) (by
           have h1 := HB7.out.size; have h2 := hI.kp.size
           simp only [World.size_setCell]
           omega))
        have HK' := Lib.hid hK'; have HZ6 := Lib.hid z6'
        have hmm : ((M.length : Int) == (M.length : Int)) = true := beq_self_eq_true _
        clear hI hd hn hN' hw7 h6l h7l h6 h7 z6 hne hK' z6' hD
        go_wp2_with (fail)
        refine ⟨by simp, .inl ⟨D, _, rfl, run_takeDeferred HK'.out, ?_⟩⟩
        have z6'' := HZ6.out
        exact ⟨.bool true, by simp [results, Try.results3, go_sem, z6''], rfl, HBE.out⟩
       case stop =>
        intro D pre X hD hS hI hd
        have c6 : X.cell? ⟨b6, 0, none⟩ = some (.bool true) := hI.1.c 0 _ rfl
        have HK' := Lib.hid hd; have HC6 := Lib.hid c6
        have HBE : Hid (Below w.heap.size w (X.putObj D (.deferred none))) := hI.2.trans (below_put (.deferred none) (Nat.le_trans HB7.out.size hD) hI.2.size)
        clear hd c6 hI hD
        refine wpIn_wide.2 ?_
        go_wp2_with (fail)
        refine ⟨by simp, .inl ⟨D, _, rfl, run_takeDeferred HK'.out, ?_⟩⟩
        have c6'' := cell_kept HC6.out (grownBy_putObj' _ D (.deferred none)) (fun r e => by cases e; exact ⟨_, HK'.out, rfl⟩)
        exact ⟨.bool true, by simp [results, Try.results3, go_sem, c6''], rfl, HBE.out⟩
end Go.Proofs.Ytamhfjlffacakaa.So

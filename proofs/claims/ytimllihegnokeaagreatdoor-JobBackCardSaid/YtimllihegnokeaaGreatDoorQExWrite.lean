/-
  A text of this claim: ExWrite.
-/
import Derived.Test.YtimllihegnokeaaGreatDoorQ6
import Derived.Test.YtimllihegnokeaaGreatDoorQ4
import Derived.Test.YtimllihegnokeaaGreatDoorQ2
namespace Go.Proofs.YtimllihegnokeaaGreatDoor.Ex
open Go.ChangeShapes Go.WideShapes Go.ChangeAt Go.RowKit Ov Va
structure Lo (w : World) (B : Nat) : Prop where
 kn : KM w
 tab : Tab w
 k : 1 < B
 n : 0 < B
 t : 3 < B
 le : B ≤ w.heap.size
theorem Lo.below {w w' : World} {B : Nat} (h : Lo w B) (k : Below B w w') : Lo w' B :=
 ⟨⟨⟨fun i hi => (k.cell (p := ⟨1, 2 * i, none⟩) h.k).trans (h.kn.word i hi), fun i hi => (k.cell (p := ⟨1, 2 * i + 1, none⟩) h.k).trans (h.kn.parts i hi)⟩,
  fun i hi => (k.cell (p := ⟨0, i, none⟩) h.n).trans (h.kn.name i hi)⟩, by
  have e : w'.var? Tryz.prog "internal/strconv.uint64pow10" = w.var? Tryz.prog "internal/strconv.uint64pow10" := by
   unfold World.var?
   rw [tab_global]
   simp only [Option.bind_some]
   rw [k.block _ h.t]
  exact e.trans h.tab, h.k, h.n, h.t, Nat.le_trans h.le k.size⟩
theorem Lo.start {w : World} (hk : KM w) (ht : Tab w) : Lo w w.heap.size := ⟨hk, ht, hk.lt.1, hk.lt.2, ht.lt, Nat.le_refl _⟩
def WF (r : List No) (t : List UInt8) (B b : Nat) (w : World) (e : Ending) (w' : World) : Prop :=
 ∃ A c, e = .returned (.slice A r.length c) ∧ Nds w' A r ∧ (∀ a, A = some a → a.block < B) ∧ r.length ≤ c ∧ BldF B b t w' ∧ Below B w w' ∧ Kept b w w'
def Bx (w : World) (c : Nat) (n : No) : Prop := w.heap[c]? = some (.cells #[.int .i64 n.o, .int .i64 n.v.k, .int .i64 n.v.n, .string (tx n.v.s), .int .i64 n.v.x, .int .i64 n.v.y] 118 (0, 0))
section
variable {w w' : World} {b c : Nat} {n : No}
theorem Bx.cell (h : Bx w c n) (j : Nat) (v : Value) (hv : (ncl n)[j]? = some v) : w.cell? ⟨c, j, none⟩ = some v := by
 rw [Lib.cell_of_heap h]
 exact (List.getElem?_toArray).trans hv
end
def Bx0 (w : World) (c : Nat) (o : Int) : Prop := ∃ cs, w.heap[c]? = some (.cells cs 118 (0, 0)) ∧ cs[0]? = some (.int .i64 o)
section
variable {w w' : World} {b c : Nat} {o : Int}
theorem Bx0.kept (h : Bx0 w c o) (k : Kept b w w') (hne : c ≠ b) : Bx0 w' c o := by
 obtain ⟨cs, h1, h2⟩ := h
 exact ⟨cs, k c _ h1 (fun e => hne (Option.some.inj e)) (fun cs fz e => by injection e with _ e2; exact absurd e2 (by decide)), h2⟩
theorem Bx0.cell (h : Bx0 w c o) : w.cell? ⟨c, 0, none⟩ = some (.int .i64 o) := by
 obtain ⟨cs, h1, h2⟩ := h
 rw [Lib.cell_of_heap h1, h2]
end
structure RW (w : World) (d p : Nat) (r : List No) (full : List UInt8) (B b : Nat) (j : Nat) (R : List No) (AR : Option Addr) (cR : Nat) (dn : List UInt8) (wr : World) : Prop where
 jp : j ≤ p
 it : it (ex d) (p - j) R = some r
 nds : Nds wr AR R
 lo : ∀ a, AR = some a → a.block < B
 cap : R.length ≤ cR
 txt : dn ++ ts (wt d) (ex d) (p - j) R = full
 len : dn.length + 12300 * R.length + (d + 1) ≤ 1000000000
 bld : BldF B b dn wr
 tab : Lo wr B
 below : Below B w wr
 kept : Kept b w wr
set_option maxRecDepth 100000 in
set_option maxHeartbeats 4000000 in
theorem first_any : ∀ (d : Nat) (l r : List No) (A : Option Addr) (c B b : Nat) (t : List UInt8) (w : World), ex d l = some r → Nds w A l → (∀ a, A = some a → a.block < B) → l.length ≤ c → Lo w B → BldF B b t w → t.length + 12300 * l.length + d ≤ 1000000000 →
 Calls Tryz.prog 67 #[.pointer (some ⟨b, 0, none⟩), .slice A l.length c] w (WF r (t ++ wt d l) B b w)
 | 0, _, _, _, _, _, _, _, _, h, _, _, _, _, _, _ => by cases h
 | d + 1, l, r, A, c, B, b, t, w, h, hn, hA, hc, hlo, hbl, hlen => by
   have ih := first_any d
   cases l with
   | nil => cases h
   | cons n l =>
     obtain ⟨G, O, rfl⟩ := hn.shape (by simp)
     have e0 := hn.cell (i := 0) (by simp) 0 _ rfl
     have e1 := hn.cell (i := 0) (by simp) 1 _ rfl
     have e2 := hn.cell (i := 0) (by simp) 2 _ rfl
     have e3 := hn.cell (i := 0) (by simp) 3 _ rfl
     have e4 := hn.cell (i := 0) (by simp) 4 _ rfl
     have e5 := hn.cell (i := 0) (by simp) 5 _ rfl
     rw [show nd (n :: l) 0 = n from rfl] at e0 e1 e2 e3 e4 e5
     rw [Nat.zero_mul, Nat.add_zero] at e0 e1 e2 e3 e4 e5
     rw [ex_cons] at h
     have hrn : rn n = true := by
      rcases Bool.eq_false_or_eq_true (rn n) with hr | hr
      · exact hr
      · rw [hr] at h; cases h
     rw [if_pos hrn] at h
     have hGB : G < B := hA _ rfl
     obtain ⟨A', hA'⟩ : ∃ A', (if c = 1 then some ⟨G, O, none⟩ else some ⟨G, O + 6, none⟩ : Option Addr) = A' := ⟨_, rfl⟩
     have HA2 : Hid ((∀ a, A' = some a → a.block < B) ∧ Nds w A' l) := by
      show _ ∧ _
      rw [List.length_cons] at hc
      by_cases hc1 : c = 1
      · rw [if_pos hc1] at hA'
        subst hA'
        have : l = [] := List.eq_nil_of_length_eq_zero (by omega)
        subst this
        exact ⟨fun a e => by rw [← Option.some.inj e]; exact hGB, Nds.nil _ _⟩
      · rw [if_neg hc1] at hA'
        subst hA'
        refine ⟨fun a e => by rw [← Option.some.inj e]; exact hGB, ?_⟩
        have := hn.drop 1
        rw [Nat.one_mul] at this
        exact this
     have HLO := Lib.hid hlo; have HBL := Lib.hid hbl; have HX := Lib.hid h; have HI := Lib.hid ih
     clear hn hA hlo hbl h ih
     rw [List.length_cons] at hlen hc ⊢
     have hGlt : G < w.heap.size := block_lt_of_cell e0
     have hG1 : ¬ G = w.heap.size := by omega
     have hG2 : ¬ w.heap.size = G := by omega
     have hl1 : (1 : Int) ≤ (l.length : Int) + 1 := by omega
     have HWT : Hid (wt (d + 1) (n :: l) = if n.o = 0 then wr n.v else if n.o = 1 then nm n.v.n else 40 :: (wd n.o ++ (ts (wt d) (ex d) (pa n.o) l ++ [41]))) := wt_cons d n l
     have HRN := Lib.hid (rn_cases hrn)
     clear hrn
     generalize wt (d + 1) (n :: l) = T at *
     obtain ⟨o, v⟩ := n
     dsimp only at *
     have hcl : l.length ≤ c - 1 := by omega
     by_cases h0 : o = 0
     · subst h0
       have HR : Hid (r = l ∧ T = wr v ∧ rt v = true) := by
        show _ ∧ _ ∧ _
        refine ⟨?_, HWT.out.trans (if_pos rfl), ?_⟩
        · have := HX.out
          rw [show pa 0 = 0 from rfl, it_zero] at this
          exact (Option.some.inj this).symm
        · rcases HRN.out with ⟨_, h⟩ | ⟨h, _⟩ | ⟨h, _⟩
          · exact h
          · cases h
          · exact absurd h.1 (by decide)
       obtain rfl := HR.out.1
       have HWV : Hid (∀ w, Tab w → Calls Tryz.prog 108 #[.agg #[.int .i64 v.k, .int .i64 v.n, .string (tx v.s), .int .i64 v.x, .int .i64 v.y]] w (Gives (.string (tx (wr v))) w)) := fun w ht => by
        have h := write_yes (k := v.k) (n := v.n) (x := v.x) (y := v.y) (s := tx v.s) (by rw [tx_list]; exact HR.out.2.2) w ht
        rw [tx_list] at h
        exact h
       have hwl : (tx (wr v)).size ≤ 12290 := by rw [tx_size]; exact wr_le HR.out.2.2
       have HTX : Hid (t ++ (tx (wr v)).data.toList = t ++ T) := by show _ = _; rw [tx_list, HR.out.2.1]
       clear HX HRN HWT HI HR
       generalize tx (wr v) = s at *
       go_enter Tryz.func67, Tryz.ntmps67
       go_wp2_with (fail)
       go_region
       have hb1 : Below w.heap.size w ((w.alloc (.cells #[.int .i64 0, .int .i64 v.k, .int .i64 v.n, .string (tx v.s), .int .i64 v.x, .int .i64 v.y] 118)).drew) := below_drewN (box1 w _) 1
       have hx1 : Bx ((w.alloc (.cells #[.int .i64 0, .int .i64 v.k, .int .i64 v.n, .string (tx v.s), .int .i64 v.x, .int .i64 v.y] 118)).drew) w.heap.size ⟨0, v⟩ := heap_alloc_new w _
       generalize (w.alloc (.cells #[.int .i64 0, .int .i64 v.k, .int .i64 v.n, .string (tx v.s), .int .i64 v.x, .int .i64 v.y] 118)).drew = w1 at *
       have HB1 := Lib.hid hb1
       have HLO1 := Lib.hid (HLO.out.below (hb1.mono HLO.out.le))
       have c0 := hx1.cell 0 _ rfl
       have c1 := hx1.cell 1 _ rfl
       have c2 := hx1.cell 2 _ rfl
       have c3 := hx1.cell 3 _ rfl
       have c4 := hx1.cell 4 _ rfl
       have c5 := hx1.cell 5 _ rfl
       clear hb1 hx1 e0 e1 e2 e3 e4 e5
       go_wp2_with (fail)
       refine (HWV.out _ HLO1.out.tab).mono ?_
       rintro e w2 ⟨rfl, hb2⟩
       have HB2 := Lib.hid (Below.next HB1.out hb2)
       have HBL2 := Lib.hid (HBL.out.old HB2.out)
       have hB2 : B ≤ w2.heap.size := Nat.le_trans HLO.out.le HB2.out.size
       clear hb2 c0 c1 c2 c3 c4 c5
       go_wp2_with (fail)
       refine (writeK_any B b t s _ HBL2.out (by omega) hB2).mono ?_
       rintro e w3 ⟨rfl, hbl3, hb3, hk3⟩
       have HBL3 := Lib.hid (hbl3.cast HTX.out)
       have HB3 := Lib.hid ((HB2.out.mono HLO.out.le).trans hb3)
       have HK3 := Lib.hid ((Kept.of_below HB2.out).trans hk3)
       clear hbl3 hb3 hk3
       go_wp2_with (fail)
       go_ret
       exact ⟨A', c - 1, rfl, HA2.out.2.below HA2.out.1 HB3.out, HA2.out.1, hcl, HBL3.out, HB3.out, HK3.out⟩
     by_cases h1 : o = 1
     · subst h1
       obtain ⟨vk, vn, vs, vx, vy⟩ := v
       dsimp only at *
       have hv5 : 0 ≤ vn ∧ vn < 5 := by
        rcases HRN.out with ⟨h, _⟩ | ⟨_, _, h⟩ | ⟨h, _⟩
        · cases h
        · exact h
        · exact absurd h.1 (by decide)
       obtain ⟨i, rfl⟩ : ∃ i : Nat, vn = (i : Int) := ⟨vn.toNat, by omega⟩
       have hi : i < 5 := by omega
       have HR : Hid (r = l ∧ T = nm (i : Int)) := by
        show _ ∧ _
        refine ⟨?_, HWT.out.trans ((if_neg (by decide)).trans (if_pos rfl))⟩
        have := HX.out
        rw [show pa 1 = 0 from rfl, it_zero] at this
        exact (Option.some.inj this).symm
       obtain rfl := HR.out.1
       have hwl : (tx nml[i]!).size ≤ 3 := by rw [tx_size, ← nm_at hi]; exact (nm_in hv5).2
       have HTX : Hid (t ++ (tx nml[i]!).data.toList = t ++ T) := by show _ = _; rw [tx_list, HR.out.2, nm_at hi]
       have HNM : Hid (∀ w, KM w → w.cell? ⟨0, i, none⟩ = some (.string (tx nml[i]!))) := fun w h => h.name i hi
       clear HX HRN HWT HI HR h0
       generalize tx nml[i]! = sn at *
       generalize tx vs = s at *
       go_enter Tryz.func67, Tryz.ntmps67
       go_wp2_with (fail)
       go_region
       have hb1 : Below w.heap.size w ((w.alloc (.cells #[.int .i64 1, .int .i64 vk, .int .i64 (i : Int), .string s, .int .i64 vx, .int .i64 vy] 118)).drew) := below_drewN (box1 w _) 1
       have c2 : ((w.alloc (.cells #[.int .i64 1, .int .i64 vk, .int .i64 (i : Int), .string s, .int .i64 vx, .int .i64 vy] 118)).drew).cell? ⟨w.heap.size, 2, none⟩ = some (.int .i64 (i : Int)) := (Blk.made w 118 [.int .i64 1, .int .i64 vk, .int .i64 (i : Int), .string s, .int .i64 vx, .int .i64 vy] rfl).c 2 _ rfl
       have c0 : ((w.alloc (.cells #[.int .i64 1, .int .i64 vk, .int .i64 (i : Int), .string s, .int .i64 vx, .int .i64 vy] 118)).drew).cell? ⟨w.heap.size, 0, none⟩ = some (.int .i64 1) := (Blk.made w 118 [.int .i64 1, .int .i64 vk, .int .i64 (i : Int), .string s, .int .i64 vx, .int .i64 vy] rfl).c 0 _ rfl
       generalize (w.alloc (.cells #[.int .i64 1, .int .i64 vk, .int .i64 (i : Int), .string s, .int .i64 vx, .int .i64 vy] 118)).drew = w1 at *
       have HB1 := Lib.hid hb1
       have HLO1 := Lib.hid (HLO.out.below (hb1.mono HLO.out.le))
       have HBL1 := Lib.hid (HBL.out.old hb1)
       have hB1 : B ≤ w1.heap.size := Nat.le_trans HLO.out.le hb1.size
       have cN := HNM.out w1 HLO1.out.kn
       clear hb1 e0 e1 e2 e3 e4 e5
       go_wp2_with (fail)
       refine (writeK_any B b t sn _ HBL1.out (by omega) hB1).mono ?_
       rintro e w3 ⟨rfl, hbl3, hb3, hk3⟩
       have HBL3 := Lib.hid (hbl3.cast HTX.out)
       have HB3 := Lib.hid ((HB1.out.mono HLO.out.le).trans hb3)
       have HK3 := Lib.hid ((Kept.of_below HB1.out).trans hk3)
       clear hbl3 hb3 hk3 c0 c2 cN
       go_wp2_with (fail)
       go_ret
       exact ⟨A', c - 1, rfl, HA2.out.2.below HA2.out.1 HB3.out, HA2.out.1, hcl, HBL3.out, HB3.out, HK3.out⟩
     · have ho : 2 ≤ o ∧ o ≤ 29 := by
        rcases HRN.out with ⟨h, _⟩ | ⟨h, _⟩ | ⟨h, _⟩
        · exact absurd h h0
        · exact absurd h h1
        · exact h
       obtain ⟨i, rfl⟩ : ∃ i : Nat, o = (i : Int) := ⟨o.toNat, by omega⟩
       have hi : i < 30 := by omega
       have hk5 := (kind_in ho).2.2
       have g0 : ((i : Int) == 0) = false := beq_eq_false_iff_ne.2 h0
       have g1 : ((i : Int) == 1) = false := beq_eq_false_iff_ne.2 h1
       have HT : Hid (T = 40 :: (wdl[i]! ++ (ts (wt d) (ex d) ptl[i]! l ++ [41]))) := by
        show _ = _
        rw [HWT.out, if_neg h0, if_neg h1, wd_at hi, pa_at hi]
       have HX1 : Hid (it (ex d) ptl[i]! l = some r) := by show _ = _; rw [← pa_at hi]; exact HX.out
       have hwl : (tx wdl[i]!).size ≤ 5 := by rw [tx_size, ← wd_at hi]; exact hk5
       have hp3 : ptl[i]! ≤ 3 := by rw [← pa_at hi]; exact pa_le _
       have HKK : Hid (∀ w, KM w → w.cell? ⟨1, i * 2, none⟩ = some (.string (tx wdl[i]!)) ∧ w.cell? ⟨1, i * 2 + 1, none⟩ = some (.int .i64 ((ptl[i]! : Nat) : Int))) := fun w h => by
        have a := h.word i hi
        have b := h.parts i hi
        rw [Nat.mul_comm] at a b
        exact ⟨a, b⟩
       have HSN : Hid ((tx wdl[i]!).data.toList = wdl[i]!) := tx_list _
       have hwl2 : (wdl[i]!).length ≤ 5 := by rw [← wd_at hi]; exact hk5
       clear HX HRN HWT h0 h1 ho hk5
       generalize wdl[i]! = wl at *
       generalize ptl[i]! = p at *
       generalize tx wl = sn at *
       generalize tx v.s = s at *
       generalize v.k = vk at *
       generalize v.n = vn at *
       generalize v.x = vx at *
       generalize v.y = vy at *
       go_enter Tryz.func67, Tryz.ntmps67
       go_wp2_with (fail)
       go_region
       have hb1 : Below w.heap.size w ((w.alloc (.cells #[.int .i64 (i : Int), .int .i64 vk, .int .i64 vn, .string s, .int .i64 vx, .int .i64 vy] 118)).drew) := below_drewN (box1 w _) 1
       have hx1 : Bx0 ((w.alloc (.cells #[.int .i64 (i : Int), .int .i64 vk, .int .i64 vn, .string s, .int .i64 vx, .int .i64 vy] 118)).drew) w.heap.size (i : Int) := ⟨_, heap_alloc_new w _, rfl⟩
       generalize (w.alloc (.cells #[.int .i64 (i : Int), .int .i64 vk, .int .i64 vn, .string s, .int .i64 vx, .int .i64 vy] 118)).drew = w1 at *
       have HBX1 := Lib.hid hx1
       have HB1 := Lib.hid (hb1.mono HLO.out.le)
       have HKP1 := Lib.hid (Kept.of_below (b := b) hb1)
       have HLO1 := Lib.hid (HLO.out.below HB1.out)
       have HBL1 := Lib.hid (HBL.out.old hb1)
       have hbx : w.heap.size ≠ b := by have := HBL.out.lt; omega
       have HNE := Lib.hid hbx
       have c0 := hx1.cell
       have HBY : Hid (∀ (q : UInt8) (z : Int), (q.toNat : Int) = z → ∀ l w, BldF B b l w → l.length + 1 ≤ 140737488355328 → B ≤ w.heap.size → Calls Tryz.prog 109 #[.pointer (some ⟨b, 0, none⟩), .int .u8 z] w fun e w' => e = .returned .nilIface ∧ BldF B b (l ++ [q]) w' ∧ Below B w w' ∧ Kept b w w') :=
        fun q z hz l w h1 h2 h3 => by subst hz; exact byteK_any B b l q w h1 h2 h3
       clear hb1 hx1 e0 e1 e2 e3 e4 e5 hbx HBL HLO
       generalize w.heap.size = bx at *
       go_wp2_with (fail)
       refine (HBY.out 40 40 rfl t _ HBL1.out (by omega) HLO1.out.le).mono ?_
       rintro e w2 ⟨rfl, hbl, hb, hk⟩
       have HBL2 := Lib.hid hbl
       have HB2 := Lib.hid (HB1.out.trans hb)
       have HKP2 := Lib.hid (HKP1.out.trans hk)
       have HBX2 := Lib.hid (HBX1.out.kept hk HNE.out)
       have HLO2 := Lib.hid (HLO1.out.below hb)
       clear hbl hb hk c0 HB1 HKP1 HBX1 HLO1 HBL1
       have c0 := HBX2.out.cell
       have ck := (HKK.out _ HLO2.out.kn).1
       go_wp2_with (fail)
       refine (writeK_any B b (t ++ [40]) sn _ HBL2.out (by simp; omega) HLO2.out.le).mono ?_
       rintro e w3 ⟨rfl, hbl, hb, hk⟩
       have HBL3 := Lib.hid (hbl.cast (show t ++ [40] ++ sn.data.toList = t ++ 40 :: wl by rw [HSN.out]; simp))
       have HB3 := Lib.hid (HB2.out.trans hb)
       have HKP3 := Lib.hid (HKP2.out.trans hk)
       have HBX3 := Lib.hid (HBX2.out.kept hk HNE.out)
       have HLO3 := Lib.hid (HLO2.out.below hb)
       clear hbl hb hk c0 ck HB2 HKP2 HBX2 HLO2 HBL2
       have c0 := HBX3.out.cell
       have ck := (HKK.out _ HLO3.out.kn).2
       go_wp2_with (fail)
       clear c0 ck
       have HFULL : Hid (∀ dn, dn = t ++ 40 :: (wl ++ ts (wt d) (ex d) p l) → dn ++ [41] = t ++ T) := fun dn e => by rw [e, HT.out]; simp
       have HR0 : Hid (RW w3 d p r (t ++ 40 :: (wl ++ ts (wt d) (ex d) p l)) B b 0 l A' (c - 1) (t ++ 40 :: wl) w3) :=
        ⟨Nat.zero_le _, HX1.out, HA2.out.2.below HA2.out.1 HB3.out, HA2.out.1, hcl, by simp, by simp; omega, HBL3.out, HLO3.out, Below.refl _ _, Kept.refl _ _⟩
       generalize t ++ 40 :: (wl ++ ts (wt d) (ex d) p l) = full at *
       clear HBX3 HLO3 HBL3 HX1 HT HKK HSN HA2
       go_loopw [6, 46] (fun rest cnt wr => ∃ (j : Nat) (R : List No) (AR : Option Addr) (cR : Nat) (dn : List UInt8), cnt = .int .i64 (j : Int) ∧ rest = .slice AR R.length cR ∧ RW w3 d p r full B b j R AR cR dn wr) (fun _ cnt _ => p - (intOf cnt).toNat)
       case atStart => exact ⟨0, l, A', c - 1, t ++ 40 :: wl, rfl, rfl, HR0.out⟩
       case round =>
        obtain ⟨j, R, AR, cR, dn, rfl, rfl, hrw⟩ := hrel
        have HRW := Lib.hid hrw
        clear hrw HR0
        have hlen2 := HRW.out.len
        by_cases hlt : j < p
        · have hz := HRW.out.it
          rw [show p - j = (p - (j + 1)) + 1 by omega, it_succ] at hz
          obtain ⟨R1, h1, h2⟩ := Option.bind_eq_some_iff.1 hz
          have hw1 := wt_max d _ _ h1
          have HTS : Hid (dn ++ [32] ++ wt d R ++ ts (wt d) (ex d) (p - (j + 1)) R1 = full) := by
           show _ = _
           have := HRW.out.txt
           rw [show p - j = (p - (j + 1)) + 1 by omega, ts_succ h1] at this
           rw [← this]; simp
          have HC : Hid (∀ w, Nds w AR R → Lo w B → BldF B b (dn ++ [32]) w → Calls Tryz.prog 67 #[.pointer (some ⟨b, 0, none⟩), .slice AR R.length cR] w (WF R1 (dn ++ [32] ++ wt d R) B b w)) :=
           fun w g1 g2 g3 => HI.out R R1 AR cR B b (dn ++ [32]) w h1 g1 HRW.out.lo HRW.out.cap g2 g3 (by simp; omega)
          have HZ := Lib.hid h2
          clear hz h1 h2
          go_wp2_with (fail)
          refine (HBY.out 32 32 rfl dn _ HRW.out.bld (by omega) HRW.out.tab.le).mono ?_
          rintro e w5 ⟨rfl, hbl, hb, hk⟩
          have HBL5 := Lib.hid hbl
          have HB5 := Lib.hid (HRW.out.below.trans hb)
          have HKP5 := Lib.hid (HRW.out.kept.trans hk)
          have HLO5 := Lib.hid (HRW.out.tab.below hb)
          have HN5 := Lib.hid (HRW.out.nds.below HRW.out.lo hb)
          clear hbl hb hk
          go_wp2_with (fail)
          refine (HC.out _ HN5.out HLO5.out HBL5.out).mono ?_
          rintro e w6 ⟨A6, c6, rfl, hnd, hlo6, hcap, hbl, hb, hk⟩
          have HRW6 : Hid (RW w3 d p r full B b (j + 1) R1 A6 c6 (dn ++ [32] ++ wt d R) w6) :=
           ⟨by omega, HZ.out, hnd, hlo6, hcap, HTS.out, by simp; omega, hbl, HLO5.out.below hb, HB5.out.trans hb, HKP5.out.trans hk⟩
          clear hnd hlo6 hcap hbl hb hk HTS HC HZ hw1
          go_wp2_with (fail)
          go_roundw
          case rel => exact ⟨j + 1, R1, A6, c6, _, by go_num, rfl, HRW6.out⟩
          case measure => simp [intOf]; omega
        · have HE : Hid (R = r) := by
           show _ = _
           have hz := HRW.out.it
           rw [show p - j = 0 by omega, it_zero] at hz
           exact Option.some.inj hz
          have HD : Hid (dn ++ [41] = t ++ T) := HFULL.out dn (by
           have := HRW.out.txt
           rw [show p - j = 0 by omega] at this
           rw [← this]
           exact (List.append_nil _).symm)
          go_wp2_with (fail)
          refine (HBY.out 41 41 rfl dn _ HRW.out.bld (by omega) HRW.out.tab.le).mono ?_
          rintro e w5 ⟨rfl, hbl, hb, hk⟩
          have HBL5 := Lib.hid (hbl.cast HD.out)
          have HB5 := Lib.hid (HB3.out.trans (HRW.out.below.trans hb))
          have HKP5 := Lib.hid (HKP3.out.trans (HRW.out.kept.trans hk))
          have HN5 := Lib.hid (HRW.out.nds.below HRW.out.lo hb)
          clear hbl hb hk
          go_wp2_with (fail)
          go_ret
          obtain rfl := HE.out
          exact ⟨AR, cR, rfl, HN5.out, HRW.out.lo, HRW.out.cap, HBL5.out, HB5.out, HKP5.out⟩
def wq (l : List No) : List UInt8 × Nat := if Rt l = true then (if 4096 < (wt 25 l).length then ([], 3) else (wt 25 l, 0)) else ([], 1)
set_option maxRecDepth 100000 in
set_option maxHeartbeats 2000000 in
theorem ewrite_any (l : List No) (A : Option Addr) (c : Nat) (w : World) (hn : Nds w A l) (hk : KM w) (ht : Tab w) (hc : l.length ≤ c) (hl : l.length ≤ 4294967296) :
 Calls Tryz.prog 27 #[.slice A l.length c] w (Gives (.tuple #[.string (tx (wq l).1), .int .i64 ((wq l).2 : Int)]) w) := by
 have HR := Lib.hid (eright_any l A c w hn hk hl)
 have HN := Lib.hid hn; have HK := Lib.hid hk; have HT := Lib.hid ht
 clear hn hk ht
 rcases Bool.eq_false_or_eq_true (Rt l) with hr | hr
 · rw [hr] at HR
   obtain ⟨h4, hex⟩ := Rt_in hr
   have hpos : 0 < l.length := by
    cases l with
    | nil => cases hex
    | cons n t => simp
   obtain ⟨G, O, rfl⟩ := HN.out.shape hpos
   have hmax := wt_max 25 l [] hex
   have HEX := Lib.hid hex
   have HQ : Hid (wq l = if 4096 < (wt 25 l).length then ([], 3) else (wt 25 l, 0)) := by show _ = _; unfold wq; rw [if_pos hr]
   clear hr hex
   go_enter Tryz.func27, Tryz.ntmps27
   go_wp2_with (fail)
   refine HR.out.mono ?_
   rintro e w1 ⟨rfl, hb⟩
   have HB1 := Lib.hid hb
   have hb2 := box1 w1 (.cells #[.pointer none, .slice none 0 0] 61)
   have HF2 := Lib.hid (BldF.fresh w1)
   have HG : Hid (G < w1.heap.size) := (HN.out.next hb).lt hpos
   have HN2 := Lib.hid ((HN.out.next hb).next hb2)
   have HLO2 := Lib.hid ((Lo.start (HK.out.next hb) (HT.out.next hb)).below hb2)
   have HB2 := Lib.hid (Below.next hb hb2)
   have hws := hb.size
   clear hb hb2 HR HN HK HT
   go_wp2_with (fail)
   generalize w1.alloc (.cells #[.pointer none, .slice none 0 0] 61) = w2 at *
   generalize hB : w1.heap.size = B at *
   have HBS := Lib.hid hB
   clear hB
   refine (first_any 25 l [] (some ⟨G, O, none⟩) c B B [] w2 HEX.out HN2.out (fun a e => by rw [← Option.some.inj e]; exact HG.out) hc HLO2.out HF2.out (by simp; omega)).mono ?_
   rintro e w3 ⟨A3, c3, rfl, _, _, _, hbl, hb3, _⟩
   rw [List.nil_append] at hbl
   have HBL3 := Lib.hid hbl
   have HB3 : Hid (Below w.heap.size w w3) := HB2.out.trans (hb3.mono hws)
   have hsz3 : B ≤ w3.heap.size := Nat.le_trans HLO2.out.le hb3.size
   clear hbl hb3 HF2 HN2 HLO2
   generalize wt 25 l = T at *
   go_wp2_with (fail)
   refine (lenK_any B B T _ HBL3.out).mono ?_
   rintro e w' ⟨rfl, rfl⟩
   by_cases hT : 4096 < T.length
   · have HE : Hid (wq l = ([], 3)) := HQ.out.trans (if_pos hT)
     go_wp2_with (fail)
     go_ret2
     exact ⟨by rw [HE.out]; rfl, HB3.out⟩
   · have HE : Hid (wq l = (T, 0)) := HQ.out.trans (if_neg hT)
     go_wp2_with (fail)
     refine (stringK_any B B T _ HBL3.out hsz3).mono ?_
     rintro e w4 ⟨rfl, _, hb4, _⟩
     have HB4 : Hid (Below w.heap.size w w4) := HB3.out.trans (hb4.mono hws)
     clear hb4
     go_wp2_with (fail)
     go_ret2
     exact ⟨by rw [HE.out]; rfl, HB4.out⟩
 · rw [hr] at HR
   have HE : Hid (wq l = ([], 1)) := by show _ = _; unfold wq; rw [if_neg (by rw [hr]; decide)]
   clear hr
   go_enter Tryz.func27, Tryz.ntmps27
   go_wp2_with (fail)
   refine HR.out.mono ?_
   rintro e w1 ⟨rfl, hb⟩
   have HB1 := Lib.hid hb
   clear hb
   go_wp2_with (fail)
   go_ret2
   exact ⟨by rw [HE.out]; rfl, HB1.out⟩
end Go.Proofs.YtimllihegnokeaaGreatDoor.Ex

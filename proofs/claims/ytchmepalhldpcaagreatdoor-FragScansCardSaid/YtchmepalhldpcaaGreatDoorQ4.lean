/-
  Small texts of this claim, together: FrRNamed, FrInsR, FrInsO, FrArgS.
-/
import Derived.Test.YtchmepalhldpcaaGreatDoorQ3
import Derived.Test.YtchmepalhldpcaaGreatDoorQOvPuts
import Derived.Great.BuildSlice
import Derived.Laws.Append
import Derived.Laws.AppendOwn
import Derived.Deep.Upon
import Derived.Test.YtchmepalhldpcaaGreatDoorQ2
import Derived.Deep.Slices
import Derived.DataReads
import Derived.SizedLaws
namespace Go.Proofs.YtchmepalhldpcaaGreatDoor.Fr
open Go.ChangeShapes Go.WideShapes Go.ChangeAt Go.RowKit Ov Va
theorem dr {l T r : List UInt8} {n : Nat} {c : UInt8} (h : l.drop n = T ++ c :: r) : l.drop (n + T.length + 1) = r := by
 rw [show n + T.length + 1 = n + (T.length + 1) by omega, ← List.drop_drop, h, show T ++ c :: r = (T ++ [c]) ++ r by simp]
 exact List.drop_left' (by simp)
theorem rn_name {x : Fd} {l : List UInt8} (hx : rt x = true) (h : nm x = l) {n1 i1 n2 i2 n3 i3 n4 i4 : Nat} (h1 : rn l 1 = (n1, i1)) (h2 : rn l (i1 + 1) = (n2, i2)) (h3 : rn l (i2 + 1) = (n3, i3)) (h4 : rn l (i3 + 1) = (n4, i4)) :
 (⟨(n1 : Int), (n2 : Int), (n3 : Int), (n4 : Int)⟩ : Fd) = x := by
 obtain ⟨b1, b2, b3, b4⟩ := rt_iff.1 hx
 rw [nm_rt hx, pre4] at h
 have d1 : l.drop 1 = Lib.itoa x.t ++ 97 :: (Lib.itoa x.a ++ 112 :: (Lib.itoa x.p ++ 102 :: Lib.itoa x.f)) := by rw [← h]; rfl
 have e1 := rn_at d1 b1 (fun c hc => by cases hc; rfl)
 rw [h1, Prod.mk.injEq] at e1
 have d2 := dr d1
 rw [← e1.2] at d2
 have e2 := rn_at d2 b2 (fun c hc => by cases hc; rfl)
 rw [h2, Prod.mk.injEq] at e2
 have d3 := dr d2
 rw [← e2.2] at d3
 have e3 := rn_at d3 b3 (fun c hc => by cases hc; rfl)
 rw [h3, Prod.mk.injEq] at e3
 have d4 := dr d3
 rw [← e3.2] at d4
 have e4 := rn_at (r := []) (by rw [d4, List.append_nil]) b4 (fun c hc => by cases hc)
 rw [h4, Prod.mk.injEq] at e4
 refine Fd.eq_iff.2 ⟨?_, ?_, ?_, ?_⟩
 · show (n1 : Int) = x.t; omega
 · show (n2 : Int) = x.a; omega
 · show (n3 : Int) = x.p; omega
 · show (n4 : Int) = x.f; omega
def RNQ (l : List UInt8) (w : World) (e : Ending) (w' : World) : Prop := ∃ (y : Fd) (b : Bool), e = .returned (.tuple #[.agg #[.int .i64 y.t, .int .i64 y.a, .int .i64 y.p, .int .i64 y.f], .bool b]) ∧ Below w.heap.size w w' ∧ (b = false → ∀ x, rt x = true → nm x ≠ l)
set_option maxRecDepth 100000 in
set_option maxHeartbeats 4000000 in
theorem rnamed_any (s : ByteArray) (w : World) (hs : s.size ≤ 200000000000000) : Calls Tryz.prog 16 #[.string s] w (RNQ s.data.toList w) := by
 have HR0 := Lib.hid (Blk.made w 23 [.int .i64 0, .int .i64 0, .int .i64 0, .int .i64 0] rfl)
 have HB0 := Lib.hid (box1 w (.cells #[.int .i64 0, .int .i64 0, .int .i64 0, .int .i64 0] 23))
 have hl : s.data.toList.length = s.size := by simp
 by_cases h0 : s.data.toList = []
 · have he : s.toList.isEmpty = true := by rw [ByteArray.toList_eq, h0]; rfl
   have HN : Hid (∀ x, rt x = true → nm x ≠ s.data.toList) := Lib.hid fun x hx e => nm_ne.2 hx (e.trans h0)
   clear h0
   go_enter Tryz.func16, Tryz.ntmps16
   go_wp2_with (fail)
   (try simp only [Exit.inBlock, Exit.then]); refine bodyPost_ret (v := .tuple #[.agg #[.int .i64 0, .int .i64 0, .int .i64 0, .int .i64 0], .bool false]) (by simp [results, Tryz.results16, go_sem]) rfl ⟨z0, false, rfl, box1 w _, fun _ => HN.out⟩
 · have he : s.toList.isEmpty = false := by rw [ByteArray.toList_eq]; cases h : s.data.toList with
    | nil => exact absurd h h0
    | cons a t => rfl
   obtain ⟨⟨n1, i1⟩, h1⟩ : ∃ q, rn s.data.toList 1 = q := ⟨_, rfl⟩
   obtain ⟨⟨n2, i2⟩, h2⟩ : ∃ q, rn s.data.toList (i1 + 1) = q := ⟨_, rfl⟩
   obtain ⟨⟨n3, i3⟩, h3⟩ : ∃ q, rn s.data.toList (i2 + 1) = q := ⟨_, rfl⟩
   obtain ⟨⟨n4, i4⟩, h4⟩ : ∃ q, rn s.data.toList (i3 + 1) = q := ⟨_, rfl⟩
   have k1 := rn_le s.data.toList 1; rw [h1, hl] at k1
   have k2 := rn_le s.data.toList (i1 + 1); rw [h2, hl] at k2
   have k3 := rn_le s.data.toList (i2 + 1); rw [h3, hl] at k3
   dsimp only at k1 k2 k3
   have c1 := fun W => number_any s 1 W (by omega) (by omega)
   have c2 := fun W => number_any s (i1 + 1) W (by omega) (by omega)
   have c3 := fun W => number_any s (i2 + 1) W (by omega) (by omega)
   have c4 := fun W => number_any s (i3 + 1) W (by omega) (by omega)
   rw [h1] at c1; rw [h2] at c2; rw [h3] at c3; rw [h4] at c4
   rw [show ((i1 + 1 : Nat) : Int) = (i1 : Int) + 1 by omega] at c2
   rw [show ((i2 + 1 : Nat) : Int) = (i2 : Int) + 1 by omega] at c3
   rw [show ((i3 + 1 : Nat) : Int) = (i3 : Int) + 1 by omega] at c4
   have c1' : ∀ W, Calls Tryz.prog 33 #[.string s, .int .i64 1] W fun e w' => e = .returned (.tuple #[.int .i64 (n1 : Int), .int .i64 (i1 : Int)]) ∧ W = w' := c1
   have HN := Lib.hid (fun x hx e => rn_name (x := x) (l := s.data.toList) hx e h1 h2 h3 h4)
   clear h1 h2 h3 h4 c1 h0
   obtain ⟨y, hy⟩ : ∃ y : Fd, y = ⟨(n1 : Int), (n2 : Int), (n3 : Int), (n4 : Int)⟩ := ⟨_, rfl⟩
   have hri := fun W => rright_any ⟨(n1 : Int), (n2 : Int), (n3 : Int), (n4 : Int)⟩ W
   have HL0 : Hid (w.heap.size < (w.alloc (.cells #[.int .i64 0, .int .i64 0, .int .i64 0, .int .i64 0] 23)).heap.size) := Lib.hid (by simp)
   go_enter Tryz.func16, Tryz.ntmps16
   go_wp2_with (fail)
   generalize (w.alloc _) = w0 at *
   refine (c1' _).mono ?_
   rintro e w1 ⟨rfl, rfl⟩
   go_wp2_with (fail)
   refine (c2 _).mono ?_
   rintro e w1 ⟨rfl, rfl⟩
   go_wp2_with (fail)
   refine (c3 _).mono ?_
   rintro e w1 ⟨rfl, rfl⟩
   go_wp2_with (fail)
   refine (c4 _).mono ?_
   rintro e w1 ⟨rfl, rfl⟩
   have HA1 := Lib.hid (Blk.made w0 23 [.int .i64 (n1 : Int), .int .i64 (n2 : Int), .int .i64 (n3 : Int), .int .i64 (n4 : Int)] rfl)
   have HR1 := Lib.hid (HR0.out.old (.cells #[.int .i64 (n1 : Int), .int .i64 (n2 : Int), .int .i64 (n3 : Int), .int .i64 (n4 : Int)] 23))
   have HB1 := Lib.hid (HB0.out.alloc HB0.out.size (.cells #[.int .i64 (n1 : Int), .int .i64 (n2 : Int), .int .i64 (n3 : Int), .int .i64 (n4 : Int)] 23))
   have hz := HL0.out
   have m1 : ¬ w.heap.size = w0.heap.size := by omega
   have m2 : ¬ w0.heap.size = w.heap.size := by omega
   clear c1' c2 c3 c4 HR0 HB0
   cases hrt : rt ⟨(n1 : Int), (n2 : Int), (n3 : Int), (n4 : Int)⟩
   · rw [hrt] at hri
     have HNO : Hid (∀ x, rt x = true → nm x ≠ s.data.toList) := Lib.hid fun x hx e => by rw [HN.out x hx e, hx] at hrt; cases hrt
     clear hrt HN
     go_wp2_with (fail)
     refine (hri _).mono ?_
     rintro e w2 ⟨rfl, hb⟩
     have HR2 := Lib.hid (HR1.out.next hb)
     have HB2 := Lib.hid (Below.next HB1.out hb)
     clear hb
     have c0 := HR2.out.c 0 _ rfl; have c1 := HR2.out.c 1 _ rfl; have c2 := HR2.out.c 2 _ rfl; have c3 := HR2.out.c 3 _ rfl
     have f0 := HR2.out.f 0 _ rfl; have f1 := HR2.out.f 1 _ rfl; have f2 := HR2.out.f 2 _ rfl; have f3 := HR2.out.f 3 _ rfl
     go_wp2_with (fail)
     obtain ⟨hF, hG⟩ := four (p := .int .i64 0) (q := .int .i64 0) (r := .int .i64 0) (s := .int .i64 0) HR2.out HB2.out (Nat.le_refl _)
     clear c0 c1 c2 c3 f0 f1 f2 f3
     generalize (((World.setCell w2 _ _).setCell _ _).setCell _ _).setCell _ _ = W at *
     have e0 := hF.c 0 _ rfl; have e1 := hF.c 1 _ rfl; have e2 := hF.c 2 _ rfl; have e3 := hF.c 3 _ rfl
     (try simp only [Exit.inBlock, Exit.then]); refine bodyPost_ret (v := .tuple #[.agg #[.int .i64 0, .int .i64 0, .int .i64 0, .int .i64 0], .bool false]) (by simp [results, Tryz.results16, go_sem, e0, e1, e2, e3]) rfl ⟨z0, false, rfl, hG, fun _ => HNO.out⟩
   · rw [hrt] at hri
     have hna := fun W => rname_any ⟨(n1 : Int), (n2 : Int), (n3 : Int), (n4 : Int)⟩ W hrt
     go_wp2_with (fail)
     refine (hri _).mono ?_
     rintro e w2 ⟨rfl, hb⟩
     have HR2 := Lib.hid (HR1.out.next hb)
     have HA2 := Lib.hid (HA1.out.next hb)
     have HB2 := Lib.hid (Below.next HB1.out hb)
     clear hb HR1 HA1 HB1
     have a0 := HA2.out.c 0 _ rfl; have a1 := HA2.out.c 1 _ rfl; have a2 := HA2.out.c 2 _ rfl; have a3 := HA2.out.c 3 _ rfl
     by_cases hq : nm ⟨(n1 : Int), (n2 : Int), (n3 : Int), (n4 : Int)⟩ = s.data.toList
     · have hqe : ((tx (nm ⟨(n1 : Int), (n2 : Int), (n3 : Int), (n4 : Int)⟩)).toList == s.toList) = true := by rw [ByteArray.toList_eq, ByteArray.toList_eq, tx_list, hq]; simp
       clear hq hrt HN
       generalize tx (nm ⟨(n1 : Int), (n2 : Int), (n3 : Int), (n4 : Int)⟩) = NY at *
       go_wp2_with (fail)
       refine (hna _).mono ?_
       rintro e w3 ⟨rfl, hb⟩
       have HR3 := Lib.hid (HR2.out.next hb)
       have HA3 := Lib.hid (HA2.out.next hb)
       have HB3 := Lib.hid (Below.next HB2.out hb)
       clear hb HR2 HA2 HB2 a0 a1 a2 a3
       have a0 := HA3.out.c 0 _ rfl; have a1 := HA3.out.c 1 _ rfl; have a2 := HA3.out.c 2 _ rfl; have a3 := HA3.out.c 3 _ rfl
       have c0 := HR3.out.c 0 _ rfl; have c1 := HR3.out.c 1 _ rfl; have c2 := HR3.out.c 2 _ rfl; have c3 := HR3.out.c 3 _ rfl
       have f0 := HR3.out.f 0 _ rfl; have f1 := HR3.out.f 1 _ rfl; have f2 := HR3.out.f 2 _ rfl; have f3 := HR3.out.f 3 _ rfl
       go_wp2_with (fail)
       obtain ⟨hF, hG⟩ := four (p := .int .i64 (n1 : Int)) (q := .int .i64 (n2 : Int)) (r := .int .i64 (n3 : Int)) (s := .int .i64 (n4 : Int)) HR3.out HB3.out (Nat.le_refl _)
       clear c0 c1 c2 c3 f0 f1 f2 f3
       generalize (((World.setCell w3 _ _).setCell _ _).setCell _ _).setCell _ _ = W at *
       have e0 := hF.c 0 _ rfl; have e1 := hF.c 1 _ rfl; have e2 := hF.c 2 _ rfl; have e3 := hF.c 3 _ rfl
       (try simp only [Exit.inBlock, Exit.then]); refine bodyPost_ret (v := .tuple #[.agg #[.int .i64 (n1 : Int), .int .i64 (n2 : Int), .int .i64 (n3 : Int), .int .i64 (n4 : Int)], .bool true]) (by simp [results, Tryz.results16, go_sem, e0, e1, e2, e3]) rfl ⟨⟨(n1 : Int), (n2 : Int), (n3 : Int), (n4 : Int)⟩, true, rfl, hG, fun h => by cases h⟩
     · have hqe : ((tx (nm ⟨(n1 : Int), (n2 : Int), (n3 : Int), (n4 : Int)⟩)).toList == s.toList) = false := by rw [ByteArray.toList_eq, ByteArray.toList_eq, tx_list, beq_eq_false_iff_ne]; simpa using hq
       have HNO : Hid (∀ x, rt x = true → nm x ≠ s.data.toList) := Lib.hid fun x hx e => by rw [HN.out x hx e] at hq; exact hq e
       clear hq hrt HN
       generalize tx (nm ⟨(n1 : Int), (n2 : Int), (n3 : Int), (n4 : Int)⟩) = NY at *
       go_wp2_with (fail)
       refine (hna _).mono ?_
       rintro e w3 ⟨rfl, hb⟩
       have HR3 := Lib.hid (HR2.out.next hb)
       have HB3 := Lib.hid (Below.next HB2.out hb)
       clear hb HR2 HA2 HB2 a0 a1 a2 a3
       have c0 := HR3.out.c 0 _ rfl; have c1 := HR3.out.c 1 _ rfl; have c2 := HR3.out.c 2 _ rfl; have c3 := HR3.out.c 3 _ rfl
       have f0 := HR3.out.f 0 _ rfl; have f1 := HR3.out.f 1 _ rfl; have f2 := HR3.out.f 2 _ rfl; have f3 := HR3.out.f 3 _ rfl
       go_wp2_with (fail)
       obtain ⟨hF, hG⟩ := four (p := .int .i64 0) (q := .int .i64 0) (r := .int .i64 0) (s := .int .i64 0) HR3.out HB3.out (Nat.le_refl _)
       clear c0 c1 c2 c3 f0 f1 f2 f3
       generalize (((World.setCell w3 _ _).setCell _ _).setCell _ _).setCell _ _ = W at *
       have e0 := hF.c 0 _ rfl; have e1 := hF.c 1 _ rfl; have e2 := hF.c 2 _ rfl; have e3 := hF.c 3 _ rfl
       (try simp only [Exit.inBlock, Exit.then]); refine bodyPost_ret (v := .tuple #[.agg #[.int .i64 0, .int .i64 0, .int .i64 0, .int .i64 0], .bool false]) (by simp [results, Tryz.results16, go_sem, e0, e1, e2, e3]) rfl ⟨z0, false, rfl, hG, fun _ => HNO.out⟩
end Go.Proofs.YtchmepalhldpcaaGreatDoor.Fr
namespace Go.Proofs.YtchmepalhldpcaaGreatDoor.Fr
open Go.ChangeShapes Go.WideShapes Go.ChangeAt Go.RowKit Go.Sort Ov Dk Cr
section
variable {w w' : World} {l l1 l2 : List Fd}
theorem pcells_len : ∀ l : List Fd, (pcells l).length = l.length * 4
 | [] => rfl
 | x :: r => by
   show (encI x ++ pcells r).length = _
   rw [List.length_append, pcells_len r, encI_len, List.length_cons]; omega
theorem pcells_append (l1 l2 : List Fd) : pcells (l1 ++ l2) = pcells l1 ++ pcells l2 := by unfold pcells; rw [List.flatMap_append]
theorem ids_cells {g P : Nat} (h : Ids w (some ⟨g, P, none⟩) l) : ∀ j u, (pcells l)[j]? = some u → w.cell? ((⟨g, P, none⟩ : Addr).add j) = some u := fun j u hu => by
 have hj : j < l.length * 4 := by rw [← pcells_len]; exact (List.getElem?_eq_some_iff.1 hu).1
 have e : j = j / 4 * 4 + j % 4 := by omega
 have h1 := pcells_at l (j / 4) (j % 4) (by omega) (by omega)
 rw [← e, hu] at h1
 have h2 := h.cell (i := j / 4) (by omega) (j % 4) u h1.symm
 rw [add_plain, show P + j = P + j / 4 * 4 + j % 4 by omega]
 exact h2
theorem ids_of_cells {b : Nat} (h : ∀ j u, (pcells l)[j]? = some u → w.cell? ⟨b, j, none⟩ = some u) : Ids w (some ⟨b, 0, none⟩) l := fun _ =>
 ⟨b, 0, rfl, fun i j v hi hv => by
  have hj : j < 4 := (List.getElem?_eq_some_iff.1 hv).1
  rw [Nat.zero_add]
  exact h _ _ ((pcells_at l i j hi hj).trans hv)⟩
theorem infoR : (Tryz.prog.info? 23).map (fun i => (i.zero, i.size, i.bytes)) = some (some (.agg #[.int .i64 0, .int .i64 0, .int .i64 0, .int .i64 0]), 4, 32) := by kernel_rfl
theorem app_ids (w : World) (A : Option Addr) (c1 c2 : Nat) (B : Option Addr) (h1 : Ids w A l1) (hA : A = none → l1 = [] ∧ c1 = 0) (h2 : Ids w B l2) (hn : 0 < l2.length) (hc : c1 < l1.length + l2.length) (hb : l1.length + l2.length ≤ 1000) :
 ∃ cap w', (Builtin.append_ #[40, 40] 40 #[.slice A l1.length c1, .slice B l2.length c2]).run Tryz.prog w = .ok (.slice (some ⟨w.heap.size, 0, none⟩) (l1.length + l2.length) cap) w' ∧
  Below w.heap.size w w' ∧ w.heap.size < w'.heap.size ∧ l1.length + l2.length ≤ cap ∧ Ids w' (some ⟨w.heap.size, 0, none⟩) (l1 ++ l2) := by
 obtain ⟨i, hi, hz, hs, hy⟩ := info_parts infoR
 obtain ⟨g, P, rfl⟩ := h2.shape hn
 have hl2 : (pcells l2).length = l2.length * i.size := by rw [hs, pcells_len]
 have made : ∀ (W : World) (arr : Array Value) (zs : List Value), arr.toList = pcells (l1 ++ l2) ++ zs → Ids (W.drew.alloc (.cells arr 23)) (some ⟨W.heap.size, 0, none⟩) (l1 ++ l2) := fun W arr zs hv => by
  have e : arr = (pcells (l1 ++ l2) ++ zs).toArray := by rw [← hv]
  subst e
  refine ids_of_cells fun j u hu => ?_
  have hb := Blk.made W.drew 23 (pcells (l1 ++ l2) ++ zs) (n := W.heap.size) rfl
  refine hb.c j u ?_
  rw [List.getElem?_append_left (List.getElem?_eq_some_iff.1 hu).1]; exact hu
 have hbel : ∀ o : Obj, Below w.heap.size w (w.drew.alloc o) := fun o => below_drewN (Below.refl _ _) 1 |>.alloc (Nat.le_refl _) o
 have hsz : ∀ o : Obj, w.heap.size < (w.drew.alloc o).heap.size := fun o => by simp
 cases A with
 | none =>
   obtain ⟨rfl, rfl⟩ := hA rfl
   have hr := run_append_nil (P := Tryz.prog) w 40 40 23 i _ (by kernel_rfl) hi hz ⟨g, P, none⟩ l2.length c2 (pcells l2) hl2 (ids_cells h2) hn (by simp at hb; omega) (by rw [hy]; simp at hb; omega)
   refine ⟨_, _, by simpa using hr, hbel _, hsz _, by simpa using grownCap_ge w _ _ _, ?_⟩
   exact made w _ (Builtin.zeroCells (Value.cells (.agg #[.int .i64 0, .int .i64 0, .int .i64 0, .int .i64 0])) (grownCap w l2.length 0 23 - l2.length)).toList (by simp)
 | some a =>
   have hl1 : (pcells l1).length = l1.length * i.size := by rw [hs, pcells_len]
   have ha : ∀ j u, (pcells l1)[j]? = some u → w.cell? (a.add j) = some u := fun j u hu => by
    have h0 : 0 < l1.length := by
     have := (List.getElem?_eq_some_iff.1 hu).1
     rw [pcells_len] at this; omega
    obtain ⟨g1, P1, e⟩ := h1.shape h0
    have e' : a = ⟨g1, P1, none⟩ := Option.some.inj e
    rw [e'] at h1 ⊢
    exact ids_cells h1 j u hu
   have hr := run_append_grow (P := Tryz.prog) w 40 40 23 i _ (by kernel_rfl) hi hz a l1.length c1 (pcells l1) hl1 ha ⟨g, P, none⟩ l2.length c2 (pcells l2) hl2 (ids_cells h2) hc (by omega) (growslice_fits hc (by rw [hy]; omega))
   refine ⟨_, _, hr, hbel _, hsz _, grownCap_ge w _ _ _, ?_⟩
   exact made w _ (Builtin.zeroCells (Value.cells (.agg #[.int .i64 0, .int .i64 0, .int .i64 0, .int .i64 0])) (grownCap w (l1.length + l2.length) c1 23 - (l1.length + l2.length))).toList (by simp [pcells_append])
end
section
variable {w w' : World} {l : List Fd} {A : Option Addr}
theorem Ids.take (h : Ids w A l) (q : Nat) : Ids w A (l.take q) := fun hn => by
 have hl : 0 < l.length := by rw [List.length_take] at hn; omega
 obtain ⟨B, O, e, hc⟩ := h hl
 refine ⟨B, O, e, fun i j v hi hv => hc i j v (by rw [List.length_take] at hi; omega) ?_⟩
 rw [pd_at hi, List.getElem_take] at hv
 rw [pd_at (by rw [List.length_take] at hi; omega)]; exact hv
theorem Ids.drop {g P : Nat} (h : Ids w (some ⟨g, P, none⟩) l) (q : Nat) : Ids w (some ⟨g, P + q * 4, none⟩) (l.drop q) := fun hn => by
 refine ⟨g, P + q * 4, rfl, fun i j v hi hv => ?_⟩
 rw [List.length_drop] at hi
 rw [pd_at (by rw [List.length_drop]; exact hi), List.getElem_drop] at hv
 have := h.cell (i := q + i) (by omega) j v (by rw [pd_at (by omega)]; exact hv)
 rw [show P + q * 4 + i * 4 + j = P + (q + i) * 4 + j by omega]
 exact this
def insP (H : List Fd) (A : Option Addr) (c q : Nat) (x : Fd) (G P k n0 c0 B : Nat) (j : Nat) (v : Value) (w : World) : Prop :=
 match j with
 | 0 | 9 => v = .slice A H.length c ∧ Ids w A H
 | 1 | 2 | 10 => v = .int .i64 (q : Int)
 | 3 => v = .slice A q q ∧ Ids w A (H.take q)
 | 4 => v = .slice (some ⟨G, P, none⟩) n0 c0
 | 5 => v = .int .i64 (k : Int)
 | 6 => v = .pointer (some ⟨G, P + k * 4, none⟩)
 | 7 => v = .agg #[.int .i64 x.t, .int .i64 x.a, .int .i64 x.p, .int .i64 x.f]
 | 8 => ∃ b, v = .slice (some ⟨b, 0, none⟩) 1 1 ∧ Ids w (some ⟨b, 0, none⟩) [x]
 | 11 => ∃ A', v = .slice A' (H.length - q) (c - q) ∧ Ids w A' (H.drop q)
 | 12 => ∃ A' c', v = .slice A' (1 + (H.length - q)) c' ∧ Ids w A' (x :: H.drop q)
 | 13 | 14 => ∃ b c', v = .slice (some ⟨b, 0, none⟩) (H.length + 1) c' ∧ B ≤ b ∧ b < w.heap.size ∧ H.length + 1 ≤ c' ∧ Ids w (some ⟨b, 0, none⟩) (H.take q ++ x :: H.drop q)
 | _ => True
theorem insP_mono (H : List Fd) (A : Option Addr) (c q : Nat) (x : Fd) (G P k n0 c0 B : Nat) (j : Nat) (v : Value) (w w' : World) (hb : Below w.heap.size w w') (h : insP H A c q x G P k n0 c0 B j v w) : insP H A c q x G P k n0 c0 B j v w' := by
 unfold insP at *
 split at h
 all_goals first
  | exact h
  | exact ⟨h.1, h.2.next hb⟩
  | (obtain ⟨b, h1, h2⟩ := h; exact ⟨b, h1, h2.next hb⟩)
  | (obtain ⟨b, c, h1, h2⟩ := h; exact ⟨b, c, h1, h2.next hb⟩)
  | (obtain ⟨b, c, h1, h2, h3, h4, h5⟩ := h; exact ⟨b, c, h1, h2, Nat.lt_of_lt_of_le h3 hb.size, h4, h5.next hb⟩)
theorem uT : Tryz.prog.underlying 40 = some (.slice (Tryz.prog.elem 40)) := by kernel_rfl
theorem sT (w : World) : (Go.sizeOf (Tryz.prog.elem 40)).run Tryz.prog w = .ok 4 w := by kernel_rfl
section
variable {o : Oper} {a : Act} {Q : Exit → Act → World → Prop} {S : Value → World → Prop} {n c q : Nat}
theorem y_hd (x y z : Operand) (ho : o.op = .slice 40 x none (some y) (some z)) (hx : a.eval x = .slice A n c) (hy : a.eval y = .int .i64 (q : Int)) (hz : a.eval z = .int .i64 (q : Int)) (hq : q ≤ c) (hs : S (.slice A q q) w)
 (K : Act → World → Prop) (hK : ∀ v w', Below w.heap.size w w' → S v w' → K (a.put o.dst v) w') : o.wp Tryz.prog a w K Q := by
 refine y_val (v := .slice A q q) (w' := w) ?_ (Below.refl _ _) hs K hK
 have e := run_slice_hm (P := Tryz.prog) w 40 A n c uT .i64 .i64 (q : Int) (q : Int) (by omega) (by omega) (by omega)
 have e1 : sliced A 0 q q 4 = .slice A q q := by
  unfold sliced
  cases A with
  | none => simp
  | some p => simp [add0_]
 unfold execOp
 simp only [ho, Option.map_none, Option.map_some, hx, hy, hz, Sem.run_bind, run_sliceAt_slice w _ _ _ _ _ uT, e, sT, Result.andThen, Int.toNat_natCast, e1]
 rfl
theorem y_tl (x y : Operand) (ho : o.op = .slice 40 x (some y) none none) (hx : a.eval x = .slice A n c) (hy : a.eval y = .int .i64 (q : Int)) (hq : q ≤ n) (hs : S (sliced A q n c 4) w)
 (K : Act → World → Prop) (hK : ∀ v w', Below w.heap.size w w' → S v w' → K (a.put o.dst v) w') : o.wp Tryz.prog a w K Q := by
 refine y_val (v := sliced A q n c 4) (w' := w) ?_ (Below.refl _ _) hs K hK
 have e := run_slice_l (P := Tryz.prog) w 40 A n c uT .i64 (q : Int) (by omega) (by omega)
 unfold execOp
 simp only [ho, Option.map_none, Option.map_some, hx, hy, Sem.run_bind, run_sliceAt_slice w _ _ _ _ _ uT, e, sT, Result.andThen, Int.toNat_natCast]
 rfl
theorem tl_ids (h : Ids w A l) (hf : (A = none ∧ l = [] ∧ c = 0) ∨ ∃ g, A = some ⟨g, 0, none⟩ ∧ l.length ≤ c) (hq : q ≤ l.length) : ∃ A', sliced A q l.length c 4 = .slice A' (l.length - q) (c - q) ∧ Ids w A' (l.drop q) := by
 refine ⟨_, rfl, ?_⟩
 rcases hf with ⟨rfl, rfl, rfl⟩ | ⟨g, rfl, hc⟩
 · rw [List.drop_nil]; exact Ids.nil _ _
 · split
   · rw [List.drop_eq_nil_of_le (by omega)]; exact Ids.nil _ _
   · have := Ids.drop h q
     rw [Nat.zero_add] at this
     rw [Option.map_some, add_plain, Nat.zero_add]
     exact this
theorem y_ix {G P k : Nat} (x y : Operand) (ho : o.op = .indexAddr 40 x y) (hx : a.eval x = .slice (some ⟨G, P, none⟩) n c) (hy : a.eval y = .int .i64 (k : Int)) (hk : k < n) (hs : S (.pointer (some ⟨G, P + k * 4, none⟩)) w)
 (K : Act → World → Prop) (hK : ∀ v w', Below w.heap.size w w' → S v w' → K (a.put o.dst v) w') : o.wp Tryz.prog a w K Q := by
 refine y_val (v := .pointer (some ⟨G, P + k * 4, none⟩)) (w' := w) ?_ (Below.refl _ _) hs K hK
 have h1 : (0 : Int) ≤ (k : Int) ∧ (k : Int) < (n : Int) := by omega
 unfold execOp
 simp [ho, hx, hy, Instr.indexAt, asIntOf, run_underlying uT, hk, sT, Result.andThen, add_plain]
theorem y_ld {G P : Nat} {x : Fd} (p : Operand) (ho : o.op = .load 23 p) (hp : a.eval p = .pointer (some ⟨G, P, none⟩))
 (h0 : w.cell? ⟨G, P, none⟩ = some (.int .i64 x.t)) (h1 : w.cell? ⟨G, P + 1, none⟩ = some (.int .i64 x.a)) (h2 : w.cell? ⟨G, P + 2, none⟩ = some (.int .i64 x.p)) (h3 : w.cell? ⟨G, P + 3, none⟩ = some (.int .i64 x.f)) (hs : S (.agg #[.int .i64 x.t, .int .i64 x.a, .int .i64 x.p, .int .i64 x.f]) w)
 (K : Act → World → Prop) (hK : ∀ v w', Below w.heap.size w w' → S v w' → K (a.put o.dst v) w') : o.wp Tryz.prog a w K Q := by
 refine y_val (v := .agg #[.int .i64 x.t, .int .i64 x.a, .int .i64 x.p, .int .i64 x.f]) (w' := w) ?_ (Below.refl _ _) hs K hK
 have hl : (Instr.loadAt 23 (.pointer (some ⟨G, P, none⟩))).run Tryz.prog w = .ok (.agg #[.int .i64 x.t, .int .i64 x.a, .int .i64 x.p, .int .i64 x.f]) w := by go_simp
 unfold execOp
 simp only [ho, hp, Sem.run_bind, hl, Result.andThen]
 rfl
theorem y_bs {x : Fd} (p : Operand) (ho : o.op = .buildSlice 40 1 #[(0, p)]) (hp : a.eval p = .agg #[.int .i64 x.t, .int .i64 x.a, .int .i64 x.p, .int .i64 x.f]) (hs : S (.slice (some ⟨w.heap.size, 0, none⟩) 1 1) (w.alloc (.cells #[.int .i64 x.t, .int .i64 x.a, .int .i64 x.p, .int .i64 x.f] 23)))
 (K : Act → World → Prop) (hK : ∀ v w', Below w.heap.size w w' → S v w' → K (a.put o.dst v) w') : o.wp Tryz.prog a w K Q := by
 refine y_val (v := .slice (some ⟨w.heap.size, 0, none⟩) 1 1) (w' := w.alloc (.cells #[.int .i64 x.t, .int .i64 x.a, .int .i64 x.p, .int .i64 x.f] 23)) ?_ (box1 _ _) hs K hK
 have hl : (Instr.buildSlice 40 1 #[(0, .agg #[.int .i64 x.t, .int .i64 x.a, .int .i64 x.p, .int .i64 x.f])]).run Tryz.prog w = .ok (.slice (some ⟨w.heap.size, 0, none⟩) 1 1) (w.alloc (.cells #[.int .i64 x.t, .int .i64 x.a, .int .i64 x.p, .int .i64 x.f] 23)) := by kernel_rfl
 unfold execOp
 simp only [ho, List.map_toArray, List.map_cons, List.map_nil, hp, Sem.run_bind, hl, Result.andThen]
 rfl
theorem y_ap {v1 v2 v' : Value} {w' : World} (x y : Operand) (ho : o.op = .call { callee := .builtin .append, args := #[x, y], argTypes := #[40, 40] }) (ht : o.type = 40) (hx : a.eval x = v1) (hy : a.eval y = v2)
 (hr : (Builtin.append_ #[40, 40] 40 #[v1, v2]).run Tryz.prog w = .ok v' w') (hb : Below w.heap.size w w') (hs : S v' w')
 (K : Act → World → Prop) (hK : ∀ v w', Below w.heap.size w w' → S v w' → K (a.put o.dst v) w') : o.wp Tryz.prog a w K Q := by
 refine y_val (v := v') (w' := w') ?_ hb hs K hK
 unfold execOp
 simp only [ho, resolve, invoke, builtin, Sem.run_bind, Sem.run_pure, Result.andThen_ok, List.map_toArray, List.map_cons, List.map_nil, hx, hy, ht, hr]
end
theorem app_none (A : Option Addr) (n c : Nat) (h : n ≤ c) (B : Option Addr) (c2 : Nat) (w : World) : (Builtin.append_ #[40, 40] 40 #[.slice A n c, .slice B 0 c2]).run Tryz.prog w = .ok (.slice A n c) w := by
 obtain ⟨i, hi, hz, hs, hy⟩ := info_parts infoR
 have hu : Tryz.prog.underlying 40 = some (.slice 23) := by kernel_rfl
 exact run_append_nothing w _ _ _ _ i hu hi A n c h _ ⟨.inl ⟨_, hu⟩, fun _ => by cases B <;> rfl, by cases B <;> simp [Builtin.firstCells, loadCells, loadCellsFrom], by cases B <;> simp [Builtin.firstCells, loadCells, loadCellsFrom], by simp, fun u h => by cases h⟩
theorem ids_made (w : World) (x : Fd) : Ids (w.alloc (.cells #[.int .i64 x.t, .int .i64 x.a, .int .i64 x.p, .int .i64 x.f] 23)) (some ⟨w.heap.size, 0, none⟩) [x] :=
 ids_of_cells fun j u hu => (Blk.made w 23 [.int .i64 x.t, .int .i64 x.a, .int .i64 x.p, .int .i64 x.f] rfl).c j u hu
section
variable {o : Oper} {a : Act} {Q : Exit → Act → World → Prop} {c q : Nat} {x : Fd} {H : List Fd}
theorem ins12 (y z : Operand) (ho : o.op = .call { callee := .builtin .append, args := #[y, z], argTypes := #[40, 40] }) (ht : o.type = 40)
 (hx : ∃ b, a.eval y = .slice (some ⟨b, 0, none⟩) 1 1 ∧ Ids w (some ⟨b, 0, none⟩) [x]) (hy : ∃ A', a.eval z = .slice A' (H.length - q) (c - q) ∧ Ids w A' (H.drop q)) (hn : H.length ≤ 100)
 (K : Act → World → Prop) (hK : ∀ v w', Below w.heap.size w w' → (∃ A' c', v = .slice A' (1 + (H.length - q)) c' ∧ Ids w' A' (x :: H.drop q)) → K (a.put o.dst v) w') : o.wp Tryz.prog a w K Q := by
 obtain ⟨b, e1, h1⟩ := hx
 obtain ⟨A', e2, h2⟩ := hy
 by_cases h0 : H.length - q = 0
 · have hd : H.drop q = [] := List.drop_eq_nil_of_le (by omega)
   rw [h0] at e2 hK
   exact y_ap (S := fun v w' => ∃ A' c', v = .slice A' (1 + 0) c' ∧ Ids w' A' (x :: H.drop q)) y z ho ht e1 e2 (app_none _ _ _ (Nat.le_refl _) _ _ _) (Below.refl _ _) ⟨_, _, rfl, by rw [hd]; exact h1⟩ K hK
 · have hl : (H.drop q).length = H.length - q := List.length_drop
   obtain ⟨cap, w', hr, hb, _, _, hi⟩ := app_ids w (some ⟨b, 0, none⟩) 1 (c - q) A' h1 (fun e => by cases e) h2 (by omega) (by show 1 < 1 + _; omega) (by show 1 + _ ≤ _; omega)
   rw [hl] at hr
   exact y_ap (S := fun v w' => ∃ A' c', v = .slice A' (1 + (H.length - q)) c' ∧ Ids w' A' (x :: H.drop q)) y z ho ht e1 e2 hr hb ⟨_, _, rfl, hi⟩ K hK
theorem ins13 (y z : Operand) (ho : o.op = .call { callee := .builtin .append, args := #[y, z], argTypes := #[40, 40] }) (ht : o.type = 40) (B : Nat) (hB : B ≤ w.heap.size)
 (hx : a.eval y = .slice A q q ∧ Ids w A (H.take q)) (hf : A = none → H = []) (hq : q ≤ H.length) (hy : ∃ A' c', a.eval z = .slice A' (1 + (H.length - q)) c' ∧ Ids w A' (x :: H.drop q)) (hn : H.length ≤ 100)
 (K : Act → World → Prop) (hK : ∀ v w', Below w.heap.size w w' → (∃ b c', v = .slice (some ⟨b, 0, none⟩) (H.length + 1) c' ∧ B ≤ b ∧ b < w'.heap.size ∧ H.length + 1 ≤ c' ∧ Ids w' (some ⟨b, 0, none⟩) (H.take q ++ x :: H.drop q)) → K (a.put o.dst v) w') : o.wp Tryz.prog a w K Q := by
 obtain ⟨e1, h1⟩ := hx
 obtain ⟨A', c', e2, h2⟩ := hy
 have l1 : (H.take q).length = q := by rw [List.length_take]; omega
 have l2 : (x :: H.drop q).length = 1 + (H.length - q) := by rw [List.length_cons, List.length_drop]; omega
 obtain ⟨cap, w', hr, hb, hlt, hcap, hi⟩ := app_ids w A q c' A' h1 (fun e => by
  obtain rfl := hf e
  simp at hq; subst hq; exact ⟨rfl, rfl⟩) h2 (by rw [l2]; omega) (by rw [l1, l2]; omega) (by rw [l1, l2]; omega)
 rw [l1, l2, show q + (1 + (H.length - q)) = H.length + 1 by omega] at hr
 rw [l1, l2] at hcap
 exact y_ap (S := fun v w' => ∃ b c', v = .slice (some ⟨b, 0, none⟩) (H.length + 1) c' ∧ B ≤ b ∧ b < w'.heap.size ∧ H.length + 1 ≤ c' ∧ Ids w' (some ⟨b, 0, none⟩) (H.take q ++ x :: H.drop q)) y z ho ht e1 e2 hr hb ⟨_, _, rfl, hB, hlt, by omega, hi⟩ K hK
end
end
end Go.Proofs.YtchmepalhldpcaaGreatDoor.Fr
namespace Go.Proofs.YtchmepalhldpcaaGreatDoor.Fr
open Go.ChangeShapes Go.WideShapes Go.ChangeAt Go.RowKit Ov
section
variable {H : Type} {enc : TypeId × Value → H} {w : World} {base : Nat} {spare : Nat → Bool} {held : Bool}
theorem four_of {α : Type} {l : List α} (h : l.length = 4) : ∃ a0 a1 a2 a3, l = [a0, a1, a2, a3] := by
 match l, h with
 | [a0, a1, a2, a3], _ => exact ⟨a0, a1, a2, a3, rfl⟩
set_option maxRecDepth 100000 in
theorem id_cells {fuel : Nat} {cs : List Value} {z : DataW H × List MemPlace} (h : DataW.trod enc Tryz.prog w base spare held fuel 23 cs = some z) : ∃ x : Fd, cs = encI x := by
 have c1 : Tryz.prog.cellsOf 3 = 1 := by kernel_rfl
 have hC : Tryz.prog.cellsOf 23 = 4 := by kernel_rfl
 obtain ⟨y0, y1, y2, y3, m, _, hl, h0, h1, h2, h3⟩ := Joins.trod_struct4 Tryz.underlying23 h
 obtain ⟨a0, a1, a2, a3, rfl⟩ := four_of (hl.trans hC)
 simp only [c1] at h0 h1 h2 h3
 obtain ⟨k0, e0, _, _⟩ := DataW.trod_int Tryz.underlying3 h0
 obtain ⟨k1, e1, _, _⟩ := DataW.trod_int Tryz.underlying3 h1
 obtain ⟨k2, e2, _, _⟩ := DataW.trod_int Tryz.underlying3 h2
 obtain ⟨k3, e3, _, _⟩ := DataW.trod_int Tryz.underlying3 h3
 obtain rfl : a0 = .int .i64 k0 := by simpa using e0
 obtain rfl : a1 = .int .i64 k1 := by simpa using e1
 obtain rfl : a2 = .int .i64 k2 := by simpa using e2
 obtain rfl : a3 = .int .i64 k3 := by simpa using e3
 exact ⟨⟨k0, k1, k2, k3⟩, rfl⟩
end
def IdIn (w : World) (p : Option Addr) (n : Nat) (l : List Fd) : Prop := n = l.length ∧ Ids w p l ∧ l.length ≤ maxLen
set_option maxRecDepth 100000 in
theorem ids_of {H : Type} {enc : TypeId × Value → H} {W : World} {p : Option Addr} {n c : Nat} {d : DataW H} {ps : List MemPlace} (h : DataW.Trod enc Tryz.prog W 0 (fun _ => true) true 40 (.slice p n c) d ps) : ∃ l : List Fd, IdIn W p n l := by
 have c4 : Tryz.prog.cellsOf 23 = 4 := by kernel_rfl
 obtain ⟨fuel, hf⟩ := h
 rcases Go.Deep.open_slice Tryz.underlying40 hf with ⟨hcs, _⟩ | ⟨a, len, cap, m, f, D, Pl, hcs, _, hlc, hcm, hm, _, hall⟩
 · simp [Value.cells] at hcs
   obtain ⟨rfl, rfl, rfl⟩ := hcs
   exact ⟨[], rfl, Ids.nil _ _, Nat.zero_le _⟩
 · simp [Value.cells] at hcs
   obtain ⟨rfl, rfl, rfl⟩ := hcs
   simp at hm
   subst hm
   have hz : ∀ i, i < m → ∃ q : Fd, ∀ j v, (encI q)[j]? = some v → W.cell? ((a.add (i * 4)).add j) = some v := fun i hi => by
    obtain ⟨cs', hc, ht⟩ := hall i hi
    rw [c4] at hc
    obtain ⟨q, rfl⟩ := id_cells ht
    obtain ⟨_, _, hat⟩ := World.cells?_some hc
    exact ⟨q, fun j v hv => by rw [hat j (List.getElem?_eq_some_iff.1 hv).1]; exact hv⟩
   obtain ⟨q, hq⟩ := Go.Deep.choose_lt hz
   have hget : ∀ i, i < n → pd ((List.range n).map q) i = q i := fun i hi => by unfold pd; simp [hi]
   refine ⟨(List.range n).map q, by simp, fun hn => ?_, by simpa using Nat.le_trans hlc hcm⟩
   have hn' : 0 < n := by simpa using hn
   have h0 := hq 0 (by omega) 0 _ rfl
   have ha := at_plain (show W.cell? a = _ by simpa [Addr.add] using h0)
   refine ⟨a.block, a.off, congrArg some ha, fun i j v hi hv => ?_⟩
   have hi' : i < n := by simpa using hi
   rw [hget i hi'] at hv
   have := hq i (by omega) j v hv
   rw [ha, Go.WideShapes.add_plain, Go.WideShapes.add_plain] at this
   exact this
theorem strz_of {H : Type} {enc : TypeId × Value → H} {W : World} {p : Option Addr} {n c : Nat} {d : DataW H} {ps : List MemPlace} (h : DataW.Trod enc Tryz.prog W 0 (fun _ => true) true 41 (.slice p n c) d ps) :
 ∃ t : Nat → ByteArray, StrIn W p n c t ∧ ∀ i, i < n → ∃ es sp, d = .slice es sp ∧ .lit (.string (t i).data.toList) ∈ es := by
 obtain ⟨fuel, hf⟩ := h
 rcases Go.Deep.open_strs Tryz.underlying41 Tryz.underlying9 (by kernel_rfl) hf with ⟨hcs, _⟩ | ⟨a, len, cap, m, Sx, hcs, _, hlc, hcm, hm, hx, hall⟩
 · simp [Value.cells] at hcs
   obtain ⟨rfl, rfl, rfl⟩ := hcs
   exact ⟨fun _ => ⟨#[]⟩, ⟨fun h => absurd h (Nat.lt_irrefl 0), Nat.zero_le _, Nat.le_refl _⟩, fun i hi => absurd hi (Nat.not_lt_zero i)⟩
 · simp [Value.cells] at hcs
   obtain ⟨rfl, rfl, rfl⟩ := hcs
   simp at hm
   subst hm
   refine ⟨Sx, ⟨fun hn => ?_, Nat.le_trans hlc hcm, hlc⟩, fun i hi => ⟨_, _, (Prod.mk.inj hx).1, List.mem_map.2 ⟨i, List.mem_range.2 hi, rfl⟩⟩⟩
   have h0 := (hall 0 (by omega)).1
   rw [add0_] at h0
   have ha := at_plain h0
   refine ⟨a.block, a.off, congrArg some ha, fun i hi => ?_⟩
   have := (hall i (by omega)).1
   rw [ha, Go.WideShapes.add_plain] at this
   exact this
theorem weights_all {H : Type} {P : Program} {e : TypeId} {d : DataW H} {n : Nat} (hn : n ∈ d.weights P e) : ∀ {es : List (DataW H)}, d ∈ es → n ∈ DataW.weightsAll P e es
 | x :: r, h => by
   unfold DataW.weightsAll
   rcases List.mem_cons.1 h with rfl | h
   · exact List.mem_append_left _ hn
   · exact List.mem_append_right _ (weights_all hn h)
theorem sized_elem {H : Type} {P : Program} {ts : List TypeId} {ds : List (DataW H)} (h : (DataW.weightsEach P ts ds).all (· ≤ reachBytes) = true) {j : Nat} {t e : TypeId} {es sp : List (DataW H)} (ht : ts[j]? = some t) (hd : ds[j]? = some (.slice es sp)) (hu : P.underlying t = some (.slice e)) {bytes : List UInt8} (hm : .lit (.string bytes) ∈ es) : bytes.length ≤ reachBytes := by
 have hw : bytes.length ∈ DataW.weightsAll P e es := weights_all (by simp [DataW.weights]) hm
 have := List.all_eq_true.1 h _ (DataW.weights_mem_each ht hd bytes.length (by
  simp only [DataW.weights, hu, List.mem_cons, List.mem_append]
  exact .inr (.inl hw)))
 simpa using this
end Go.Proofs.YtchmepalhldpcaaGreatDoor.Fr

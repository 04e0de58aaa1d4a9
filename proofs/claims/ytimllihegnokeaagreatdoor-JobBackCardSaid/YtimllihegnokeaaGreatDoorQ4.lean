/-
  Small texts of this claim, together: ExTab, ExSmall, VaCut2, EvMath, EvGood, OvDuo, GaDivide, GaDiv, GaFirst, GaTurn, GaDiv2, EvSmall, EvSmall2, EvSmall3, VaWrite2, VaOrder, EvStr, EvWds, EvOwn, ExBack, GaCommon, JoFold, JoOr, EvFuel, EvLocal, EvNam.
-/
import Derived.Test.YtimllihegnokeaaGreatDoorQExRun
import Derived.Test.YtimllihegnokeaaGreatDoorQ1
import Derived.OpenShut
import Derived.Test.YtimllihegnokeaaGreatDoorQVaRight
import Derived.Test.YtimllihegnokeaaGreatDoorQ2
import Derived.Test.YtimllihegnokeaaGreatDoorQOvAlloc
import Derived.IntWalk
import Derived.Deep.QuietTactic
import Derived.BigQuiet
namespace Go.Proofs.YtimllihegnokeaaGreatDoor.Ex
open Go.ChangeShapes Go.WideShapes Go.ChangeAt Go.RowKit Ov Va
def kindsData : DataW Unit := .agg ((List.range 30).map fun i => .agg [.lit (.string wdl[i]!), .lit (.int .i64 ((ptl[i]! : Nat) : Int))])
def namesData : DataW Unit := .agg ((List.range 5).map fun i => .lit (.string nml[i]!))
structure KN (w : World) : Prop where
 word : ∀ i, i < 30 → w.cell? ⟨1, 2 * i, none⟩ = some (.string (tx wdl[i]!))
 parts : ∀ i, i < 30 → w.cell? ⟨1, 2 * i + 1, none⟩ = some (.int .i64 ((ptl[i]! : Nat) : Int))
theorem KN.next {w w' : World} (h : KN w) (k : Below w.heap.size w w') : KN w' := by
 have h1 := block_lt_of_cell (h.word 0 (by omega))
 exact ⟨fun i hi => (k.cell (p := ⟨1, 2 * i, none⟩) h1).trans (h.word i hi), fun i hi => (k.cell (p := ⟨1, 2 * i + 1, none⟩) h1).trans (h.parts i hi)⟩
structure KM (w : World) : Prop extends KN w where
 name : ∀ i, i < 5 → w.cell? ⟨0, i, none⟩ = some (.string (tx nml[i]!))
instance {w : World} : CoeOut (KM w) (KN w) := ⟨KM.toKN⟩
theorem KM.next {w w' : World} (h : KM w) (k : Below w.heap.size w w') : KM w' := by
 have h2 := block_lt_of_cell (h.name 0 (by omega))
 exact ⟨h.toKN.next k, fun i hi => (k.cell (p := ⟨0, i, none⟩) h2).trans (h.name i hi)⟩
theorem KM.lt {w : World} (h : KM w) : 1 < w.heap.size ∧ 0 < w.heap.size := ⟨block_lt_of_cell (h.word 0 (by omega)), block_lt_of_cell (h.name 0 (by omega))⟩
theorem text_eq {s : ByteArray} {l : List UInt8} (h : s.data.toList = l) : s = tx l := tx_ext h
theorem at_take {cs : List Value} {i : Nat} {v : Value} (h : (cs.drop i).take 1 = [v]) : cs[i]? = some v := by
 have := congrArg (·[0]?) h
 simpa [List.getElem?_take, List.getElem?_drop] using this
set_option maxRecDepth 100000 in
theorem kinds_met {w : World} {l : List (String × DataW Unit)} {d : DataW Unit} (hd : d = kindsData) (hm : ("stook/expr.kinds", d) ∈ l) (h : laidMet Tryz.prog l w) :
 (∀ i, i < 30 → w.cell? ⟨1, 2 * i, none⟩ = some (.string (tx wdl[i]!))) ∧ ∀ i, i < 30 → w.cell? ⟨1, 2 * i + 1, none⟩ = some (.int .i64 ((ptl[i]! : Nat) : Int)) := by
 obtain ⟨_, hv, _⟩ := h
 obtain ⟨g, t, cs, fuel, p, hg, ht, hvar, hr⟩ := laid_reads hv _ d hm
 obtain rfl := Option.some.inj ((show Tryz.prog.globalNamed "stook/expr.kinds" = some 1 by kernel_rfl).symm.trans hg)
 obtain rfl := Option.some.inj ((show (Tryz.prog.globals[1]?).map (·.type) = some 174 by kernel_rfl).symm.trans ht)
 have hcell := World.var?_cell (show Tryz.prog.globalNamed "stook/expr.kinds" = some 1 by kernel_rfl) hvar
 have cK : Tryz.prog.cellsOf 173 = 2 := by kernel_rfl
 have c1 : Tryz.prog.cellsOf 9 = 1 := by kernel_rfl
 have c2 : Tryz.prog.cellsOf 3 = 1 := by kernel_rfl
 obtain ⟨xs, m, _, hx, hlen, hxl, hi⟩ := DataW.trod_array Tryz.underlying174 hr
 rw [hd] at hx
 simp only [Prod.mk.injEq] at hx
 have hxs : xs.map (·.1) = (List.range 30).map fun i => (DataW.agg [.lit (.string wdl[i]!), .lit (.int .i64 ((ptl[i]! : Nat) : Int))] : DataW Unit) := by
  have := hx.1
  unfold kindsData at this
  injection this with this
  exact this.symm
 have key : ∀ i, i < 30 → cs.toList[2 * i]? = some (.string (tx wdl[i]!)) ∧ cs.toList[2 * i + 1]? = some (.int .i64 ((ptl[i]! : Nat) : Int)) := by
  intro i hlt
  have h1 := hi i hlt
  rw [cK] at h1
  have h2 : xs[i]? = some (xs[i]'(by omega)) := List.getElem?_eq_getElem (by omega)
  rw [h2] at h1
  have h3 : (xs[i]'(by omega)).1 = .agg [.lit (.string wdl[i]!), .lit (.int .i64 ((ptl[i]! : Nat) : Int))] := by
   have := congrArg (·[i]?) hxs
   simp only [List.getElem?_map, h2, Option.map_some] at this
   rw [List.getElem?_range hlt] at this
   exact Option.some.inj this
  obtain ⟨y0, y1, m', hy, _, g0, g1⟩ := trod_struct2 Tryz.underlying173 h1
  simp only [c1, c2] at g0 g1
  obtain ⟨s, e0, rfl, _⟩ := DataW.trod_string Tryz.underlying9 g0
  obtain ⟨n, e1, rfl, _⟩ := DataW.trod_int Tryz.underlying3 g1
  rw [hy] at h3
  simp only [DataW.agg.injEq, List.cons.injEq, DataW.lit.injEq, Lit.string.injEq, Lit.int.injEq, and_true, true_and] at h3
  obtain ⟨hs, hn⟩ := h3
  have f0 := at_take (cs := (cs.toList.drop (i * 2)).take 2) e0
  have f1 := at_take (cs := (cs.toList.drop (i * 2)).take 2) e1
  rw [text_eq hs] at f0
  rw [hn] at f1
  rw [List.getElem?_take, List.getElem?_drop] at f0 f1
  rw [show 2 * i = i * 2 + 0 by omega, show i * 2 + 0 + 1 = i * 2 + 1 by omega]
  exact ⟨by simpa using f0, by simpa using f1⟩
 exact ⟨fun i hlt => by rw [hcell, ← Array.getElem?_toList]; exact (key i hlt).1, fun i hlt => by rw [hcell, ← Array.getElem?_toList]; exact (key i hlt).2⟩
set_option maxRecDepth 100000 in
theorem names_met {w : World} {l : List (String × DataW Unit)} {d : DataW Unit} (hd : d = namesData) (hm : ("stook/expr.names", d) ∈ l) (h : laidMet Tryz.prog l w) :
 ∀ i, i < 5 → w.cell? ⟨0, i, none⟩ = some (.string (tx nml[i]!)) := by
 obtain ⟨_, hv, _⟩ := h
 obtain ⟨g, t, cs, fuel, p, hg, ht, hvar, hr⟩ := laid_reads hv _ d hm
 obtain rfl := Option.some.inj ((show Tryz.prog.globalNamed "stook/expr.names" = some 0 by kernel_rfl).symm.trans hg)
 obtain rfl := Option.some.inj ((show (Tryz.prog.globals[0]?).map (·.type) = some 170 by kernel_rfl).symm.trans ht)
 have hcell := World.var?_cell (show Tryz.prog.globalNamed "stook/expr.names" = some 0 by kernel_rfl) hvar
 have c1 : Tryz.prog.cellsOf 9 = 1 := by kernel_rfl
 obtain ⟨xs, m, _, hx, hlen, hxl, hi⟩ := DataW.trod_array Tryz.underlying170 hr
 rw [hd] at hx
 simp only [Prod.mk.injEq] at hx
 have hxs : xs.map (·.1) = (List.range 5).map fun i => (DataW.lit (.string nml[i]!) : DataW Unit) := by
  have := hx.1
  unfold namesData at this
  injection this with this
  exact this.symm
 intro i hlt
 have h1 := hi i hlt
 rw [c1] at h1
 have h2 : xs[i]? = some (xs[i]'(by omega)) := List.getElem?_eq_getElem (by omega)
 rw [h2] at h1
 have h3 : (xs[i]'(by omega)).1 = .lit (.string nml[i]!) := by
  have := congrArg (·[i]?) hxs
  simp only [List.getElem?_map, h2, Option.map_some] at this
  rw [List.getElem?_range hlt] at this
  exact Option.some.inj this
 obtain ⟨s, e0, hy, _⟩ := DataW.trod_string Tryz.underlying9 h1
 rw [hy] at h3
 simp only [DataW.lit.injEq, Lit.string.injEq] at h3
 have f0 := at_take e0
 rw [text_eq h3, Nat.mul_one] at f0
 rw [hcell, ← Array.getElem?_toList]; exact f0
theorem kn_met {w : World} {l : List (String × DataW Unit)} {d d' : DataW Unit} (hd : d = kindsData) (hd' : d' = namesData) (hm : ("stook/expr.kinds", d) ∈ l) (hm' : ("stook/expr.names", d') ∈ l) (h : laidMet Tryz.prog l w) : KM w :=
 ⟨⟨(kinds_met hd hm h).1, (kinds_met hd hm h).2⟩, names_met hd' hm' h⟩
def ptv (o : Int) : Value := .tuple #[.string (tx (wd o)), .int .i64 ((pa o : Nat) : Int), .bool (decide (2 ≤ o ∧ o ≤ 29))]
set_option maxRecDepth 100000 in
theorem parts_no {o : Int} (h : o < 2 ∨ 30 ≤ o) (w : World) : Calls Tryz.prog 136 #[.int .i64 o] w fun e w' => e = .returned (ptv o) ∧ w = w' := by
 have e : ptv o = .tuple #[.string ⟨#[]⟩, .int .i64 0, .bool false] := by
  unfold ptv
  rw [(kind_out h).1, (kind_out h).2, decide_eq_false (by omega)]; rfl
 rw [e]; clear e
 by_cases h1 : o < 2
 · go_enter Tryz.func136, Tryz.ntmps136
   go_wp2_with (fail)
   go_ret3
   exact ⟨rfl, rfl⟩
 · have h2 : 30 ≤ o := by omega
   clear h
   go_enter Tryz.func136, Tryz.ntmps136
   go_wp2_with (fail)
   go_ret3
   exact ⟨rfl, rfl⟩
set_option maxRecDepth 100000 in
theorem parts_yes {o : Int} (h : 2 ≤ o ∧ o ≤ 29) (w : World) (hk : KN w) : Calls Tryz.prog 136 #[.int .i64 o] w fun e w' => e = .returned (ptv o) ∧ ∃ m, w' = w.drewN m := by
 obtain ⟨i, rfl⟩ : ∃ i : Nat, o = (i : Int) := ⟨o.toNat, by omega⟩
 have hi : i < 30 := by omega
 have c0 := hk.word i hi
 have c1 := hk.parts i hi
 have e : ptv (i : Int) = .tuple #[.string (tx wdl[i]!), .int .i64 ((ptl[i]! : Nat) : Int), .bool true] := by
  unfold ptv
  rw [wd_at hi, pa_at hi, decide_eq_true h]
 rw [e]
 generalize tx wdl[i]! = s at *
 generalize ((ptl[i]! : Nat) : Int) = n at *
 rw [Nat.mul_comm] at c0 c1
 have h1 : ¬ (i : Int) < 2 := by omega
 have h2 : (i : Int) < 30 := by omega
 clear e hk h
 go_enter Tryz.func136, Tryz.ntmps136
 go_wp2_with (fail)
 go_quiet (fail)
 go_wp2_with (fail)
 go_ret3
 exact ⟨rfl, _, rfl⟩
theorem parts_any (o : Int) (w : World) (hk : KN w) : Calls Tryz.prog 136 #[.int .i64 o] w (Gives (ptv o) w) := by
 by_cases h : 2 ≤ o ∧ o ≤ 29
 · exact (parts_yes h w hk).mono fun _ _ ⟨he, m, hw⟩ => ⟨he, by rw [hw]; exact below_drewN (Below.refl _ _) m⟩
 · exact (parts_no (by omega) w).mono fun _ _ ⟨he, hw⟩ => ⟨he, by rw [← hw]; exact Below.refl _ _⟩
theorem nameNumber_any (n : Int) (w : World) : Calls Tryz.prog 224 #[.int .i64 n] w (Gives (.agg #[.int .i64 0, .int .i64 n, .string ⟨#[]⟩, .int .i64 0, .int .i64 0]) w) := by
 go_enter Tryz.func224, Tryz.ntmps224
 go_wp2_with (fail)
 refine bodyPost_ret (v := .agg #[.int .i64 0, .int .i64 n, .string ⟨#[]⟩, .int .i64 0, .int .i64 0]) (by simp [results, Tryz.results224, go_sem]) rfl ⟨rfl, ?_⟩
 exact box1 w _
def ncs (o k n : Int) (s : ByteArray) (x y : Int) : List Value := [.int .i64 o, .int .i64 k, .int .i64 n, .string s, .int .i64 x, .int .i64 y]
def rnv (o k n : Int) (s : ByteArray) (x y : Int) : Bool := rn ⟨o, ⟨k, n, s.data.toList, x, y⟩⟩
theorem rn_val (k n x y : Int) (s : ByteArray) : rnv 0 k n s x y = rt ⟨k, n, s.data.toList, x, y⟩ := by
 unfold rnv rn
 rw [if_pos rfl]
theorem rn_name (k n x y : Int) (s : ByteArray) : rnv 1 k n s x y = (ve ⟨k, n, s.data.toList, x, y⟩ ⟨0, n, [], 0, 0⟩ && (decide (0 ≤ n) && decide (n < 5))) := by
 unfold rnv rn
 rw [if_neg (show ¬ (1 : Int) = 0 by decide), if_pos rfl, Bool.eq_iff_iff]
 unfold ve nv
 simp only [Bool.and_eq_true, decide_eq_true_eq]
theorem rn_kind {o : Int} (h0 : o ≠ 0) (h1 : o ≠ 1) (k n x y : Int) (s : ByteArray) : rnv o k n s x y = (decide (2 ≤ o ∧ o ≤ 29) && ve ⟨k, n, s.data.toList, x, y⟩ ⟨0, 0, [], 0, 0⟩) := by
 unfold rnv rn
 rw [if_neg h0, if_neg h1, Bool.eq_iff_iff]
 unfold ve vz
 simp only [Bool.and_eq_true, decide_eq_true_eq]
set_option maxRecDepth 100000 in
set_option maxHeartbeats 1000000 in
theorem rightNode_val (k n x y : Int) (s : ByteArray) (w : World) : Calls Tryz.prog 172 #[.agg #[.int .i64 0, .int .i64 k, .int .i64 n, .string s, .int .i64 x, .int .i64 y]] w (Gives (.bool (rnv 0 k n s x y)) w) := by
 rw [rn_val]
 have HR := Lib.hid (right_val k n x y s)
 generalize rt ⟨k, n, s.data.toList, x, y⟩ = q at *
 go_enter Tryz.func172, Tryz.ntmps172
 go_wp2_with (fail)
 refine (HR.out _).mono ?_
 rintro e w1 ⟨rfl, hb⟩
 have HB := Lib.hid (Below.next (box1 w _) hb)
 clear hb
 go_wp2_with (fail)
 go_ret
 exact ⟨rfl, HB.out⟩
set_option maxRecDepth 100000 in
set_option maxHeartbeats 2000000 in
theorem rightNode_name (k n x y : Int) (s : ByteArray) (w : World) : Calls Tryz.prog 172 #[.agg #[.int .i64 1, .int .i64 k, .int .i64 n, .string s, .int .i64 x, .int .i64 y]] w (Gives (.bool (rnv 1 k n s x y)) w) := by
 rw [rn_name]
 have hE : ∀ w, (binOp .eql 45 (.agg #[.int .i64 k, .int .i64 n, .string s, .int .i64 x, .int .i64 y]) (.agg #[.int .i64 0, .int .i64 n, .string ⟨#[]⟩, .int .i64 0, .int .i64 0])).run Tryz.prog w = .ok (.bool (ve ⟨k, n, s.data.toList, x, y⟩ ⟨0, n, [], 0, 0⟩)) w := eql_val _ _ _ _ _ _ _ _ _ _
 have HN := Lib.hid (nameNumber_any n)
 generalize ve ⟨k, n, s.data.toList, x, y⟩ ⟨0, n, [], 0, 0⟩ = q at *
 cases q
 · rw [Bool.false_and]
   go_enter Tryz.func172, Tryz.ntmps172
   go_wp2_with (fail)
   have kb := Lib.hid (box1 w (.cells #[.int .i64 1, .int .i64 k, .int .i64 n, .string s, .int .i64 x, .int .i64 y] 118))
   have D := Blk.made w 118 (ncs 1 k n s x y) rfl
   change Blk (w.alloc (.cells #[.int .i64 1, .int .i64 k, .int .i64 n, .string s, .int .i64 x, .int .i64 y] 118)) w.heap.size _ at D
   generalize w.alloc (.cells #[.int .i64 1, .int .i64 k, .int .i64 n, .string s, .int .i64 x, .int .i64 y] 118) = v at *
   have k1 := fun r : Over v => (D.over r).c 1 _ rfl
   have k2 := fun r : Over v => (D.over r).c 2 _ rfl
   have k3 := fun r : Over v => (D.over r).c 3 _ rfl
   have k4 := fun r : Over v => (D.over r).c 4 _ rfl
   have k5 := fun r : Over v => (D.over r).c 5 _ rfl
   clear D
   refine wp_over (by kernel_rfl) (by kernel_rfl) ?_
   repeat (go_big_quiet_step (first | fail | with_reducible exact over_gives _ (HN.out _)))
   refine wpQuiet_nil ?_
   rintro wq ⟨⟨wq, hb⟩, rfl⟩
   have HB := Lib.hid (Below.next kb.out hb)
   clear hb kb k1 k2 k3 k4 k5
   go_wp2_with (fail)
   go_ret
   exact ⟨rfl, HB.out⟩
 · rw [Bool.true_and]
   by_cases h1 : 0 ≤ n
   · have d1 : decide (0 ≤ n) = true := decide_eq_true h1
     rw [d1, Bool.true_and]
     by_cases h2 : n < 5
     · have d2 : decide (n < 5) = true := decide_eq_true h2
       rw [d2]
       go_enter Tryz.func172, Tryz.ntmps172
       go_wp2_with (fail)
       have kb := Lib.hid (box1 w (.cells #[.int .i64 1, .int .i64 k, .int .i64 n, .string s, .int .i64 x, .int .i64 y] 118))
       have D := Blk.made w 118 (ncs 1 k n s x y) rfl
       change Blk (w.alloc (.cells #[.int .i64 1, .int .i64 k, .int .i64 n, .string s, .int .i64 x, .int .i64 y] 118)) w.heap.size _ at D
       generalize w.alloc (.cells #[.int .i64 1, .int .i64 k, .int .i64 n, .string s, .int .i64 x, .int .i64 y] 118) = v at *
       have k1 := fun r : Over v => (D.over r).c 1 _ rfl
       have k2 := fun r : Over v => (D.over r).c 2 _ rfl
       have k3 := fun r : Over v => (D.over r).c 3 _ rfl
       have k4 := fun r : Over v => (D.over r).c 4 _ rfl
       have k5 := fun r : Over v => (D.over r).c 5 _ rfl
       clear D
       refine wp_over (by kernel_rfl) (by kernel_rfl) ?_
       repeat (go_big_quiet_step (first | fail | with_reducible exact over_gives _ (HN.out _)))
       refine wpQuiet_nil ?_
       rintro wq ⟨⟨wq, hb⟩, rfl⟩
       have HB := Lib.hid (Below.next kb.out hb)
       clear hb kb k1 k2 k3 k4 k5
       go_wp2_with (fail)
       go_ret
       exact ⟨rfl, HB.out⟩
     · have d2 : decide (n < 5) = false := decide_eq_false h2
       rw [d2]
       go_enter Tryz.func172, Tryz.ntmps172
       go_wp2_with (fail)
       have kb := Lib.hid (box1 w (.cells #[.int .i64 1, .int .i64 k, .int .i64 n, .string s, .int .i64 x, .int .i64 y] 118))
       have D := Blk.made w 118 (ncs 1 k n s x y) rfl
       change Blk (w.alloc (.cells #[.int .i64 1, .int .i64 k, .int .i64 n, .string s, .int .i64 x, .int .i64 y] 118)) w.heap.size _ at D
       generalize w.alloc (.cells #[.int .i64 1, .int .i64 k, .int .i64 n, .string s, .int .i64 x, .int .i64 y] 118) = v at *
       have k1 := fun r : Over v => (D.over r).c 1 _ rfl
       have k2 := fun r : Over v => (D.over r).c 2 _ rfl
       have k3 := fun r : Over v => (D.over r).c 3 _ rfl
       have k4 := fun r : Over v => (D.over r).c 4 _ rfl
       have k5 := fun r : Over v => (D.over r).c 5 _ rfl
       clear D
       refine wp_over (by kernel_rfl) (by kernel_rfl) ?_
       repeat (go_big_quiet_step (first | fail | with_reducible exact over_gives _ (HN.out _)))
       refine wpQuiet_nil ?_
       rintro wq ⟨⟨wq, hb⟩, rfl⟩
       have HB := Lib.hid (Below.next kb.out hb)
       clear hb kb k1 k2 k3 k4 k5
       go_wp2_with (fail)
       go_ret
       exact ⟨rfl, HB.out⟩
   · have d1 : decide (0 ≤ n) = false := decide_eq_false h1
     rw [d1, Bool.false_and]
     go_enter Tryz.func172, Tryz.ntmps172
     go_wp2_with (fail)
     have kb := Lib.hid (box1 w (.cells #[.int .i64 1, .int .i64 k, .int .i64 n, .string s, .int .i64 x, .int .i64 y] 118))
     have D := Blk.made w 118 (ncs 1 k n s x y) rfl
     change Blk (w.alloc (.cells #[.int .i64 1, .int .i64 k, .int .i64 n, .string s, .int .i64 x, .int .i64 y] 118)) w.heap.size _ at D
     generalize w.alloc (.cells #[.int .i64 1, .int .i64 k, .int .i64 n, .string s, .int .i64 x, .int .i64 y] 118) = v at *
     have k1 := fun r : Over v => (D.over r).c 1 _ rfl
     have k2 := fun r : Over v => (D.over r).c 2 _ rfl
     have k3 := fun r : Over v => (D.over r).c 3 _ rfl
     have k4 := fun r : Over v => (D.over r).c 4 _ rfl
     have k5 := fun r : Over v => (D.over r).c 5 _ rfl
     clear D
     refine wp_over (by kernel_rfl) (by kernel_rfl) ?_
     repeat (go_big_quiet_step (first | fail | with_reducible exact over_gives _ (HN.out _)))
     refine wpQuiet_nil ?_
     rintro wq ⟨⟨wq, hb⟩, rfl⟩
     have HB := Lib.hid (Below.next kb.out hb)
     clear hb kb k1 k2 k3 k4 k5
     go_wp2_with (fail)
     go_ret
     exact ⟨rfl, HB.out⟩
set_option maxRecDepth 100000 in
set_option maxHeartbeats 2000000 in
theorem rightNode_kind {o : Int} (h0 : o ≠ 0) (h1 : o ≠ 1) (k n x y : Int) (s : ByteArray) (w : World) (hk : KN w) : Calls Tryz.prog 172 #[.agg #[.int .i64 o, .int .i64 k, .int .i64 n, .string s, .int .i64 x, .int .i64 y]] w (Gives (.bool (rnv o k n s x y)) w) := by
 rw [rn_kind h0 h1]
 have hE : ∀ w, (binOp .eql 45 (.agg #[.int .i64 k, .int .i64 n, .string s, .int .i64 x, .int .i64 y]) (.agg #[.int .i64 0, .int .i64 0, .string ⟨#[]⟩, .int .i64 0, .int .i64 0])).run Tryz.prog w = .ok (.bool (ve ⟨k, n, s.data.toList, x, y⟩ ⟨0, 0, [], 0, 0⟩)) w := eql_val _ _ _ _ _ _ _ _ _ _
 have HP : Hid (∀ w, KN w → Calls Tryz.prog 136 #[.int .i64 o] w (Gives (.tuple #[.string (tx (wd o)), .int .i64 ((pa o : Nat) : Int), .bool (decide (2 ≤ o ∧ o ≤ 29))]) w)) := fun w h => parts_any o w h
 have HK := Lib.hid hk; clear hk
 have g0 : (o == 0) = false := beq_eq_false_iff_ne.2 h0
 have g1 : (o == 1) = false := beq_eq_false_iff_ne.2 h1
 clear h0 h1
 generalize ve ⟨k, n, s.data.toList, x, y⟩ ⟨0, 0, [], 0, 0⟩ = q at *
 generalize decide (2 ≤ o ∧ o ≤ 29) = b at *
 generalize tx (wd o) = a at *
 generalize ((pa o : Nat) : Int) = p at *
 cases b
 · rw [Bool.false_and]
   go_enter Tryz.func172, Tryz.ntmps172
   go_wp2_with (fail)
   have kb := Lib.hid (box1 w (.cells #[.int .i64 o, .int .i64 k, .int .i64 n, .string s, .int .i64 x, .int .i64 y] 118))
   have D := Blk.made w 118 (ncs o k n s x y) rfl
   change Blk (w.alloc (.cells #[.int .i64 o, .int .i64 k, .int .i64 n, .string s, .int .i64 x, .int .i64 y] 118)) w.heap.size _ at D
   generalize w.alloc (.cells #[.int .i64 o, .int .i64 k, .int .i64 n, .string s, .int .i64 x, .int .i64 y] 118) = v at *
   have c0 := D.c 0 _ rfl
   refine (HP.out _ (HK.out.next kb.out)).mono ?_
   rintro e w1 ⟨rfl, hb⟩
   have HB := Lib.hid (Below.next kb.out hb)
   have D1 := D.next hb
   clear hb kb c0 D
   have c1 := D1.c 1 _ rfl; have c2 := D1.c 2 _ rfl; have c3 := D1.c 3 _ rfl; have c4 := D1.c 4 _ rfl; have c5 := D1.c 5 _ rfl
   clear D1
   go_wp2_with (fail)
   go_ret
   exact ⟨rfl, HB.out⟩
 · rw [Bool.true_and]
   go_enter Tryz.func172, Tryz.ntmps172
   go_wp2_with (fail)
   have kb := Lib.hid (box1 w (.cells #[.int .i64 o, .int .i64 k, .int .i64 n, .string s, .int .i64 x, .int .i64 y] 118))
   have D := Blk.made w 118 (ncs o k n s x y) rfl
   change Blk (w.alloc (.cells #[.int .i64 o, .int .i64 k, .int .i64 n, .string s, .int .i64 x, .int .i64 y] 118)) w.heap.size _ at D
   generalize w.alloc (.cells #[.int .i64 o, .int .i64 k, .int .i64 n, .string s, .int .i64 x, .int .i64 y] 118) = v at *
   have c0 := D.c 0 _ rfl
   refine (HP.out _ (HK.out.next kb.out)).mono ?_
   rintro e w1 ⟨rfl, hb⟩
   have HB := Lib.hid (Below.next kb.out hb)
   have D1 := D.next hb
   clear hb kb c0 D
   have c1 := D1.c 1 _ rfl; have c2 := D1.c 2 _ rfl; have c3 := D1.c 3 _ rfl; have c4 := D1.c 4 _ rfl; have c5 := D1.c 5 _ rfl
   clear D1
   go_wp2_with (fail)
   go_ret
   exact ⟨rfl, HB.out⟩
theorem rightNode_any (o k n x y : Int) (s : ByteArray) (w : World) (hk : KN w) : Calls Tryz.prog 172 #[.agg #[.int .i64 o, .int .i64 k, .int .i64 n, .string s, .int .i64 x, .int .i64 y]] w (Gives (.bool (rnv o k n s x y)) w) := by
 by_cases h0 : o = 0
 · subst h0; exact rightNode_val k n x y s w
 by_cases h1 : o = 1
 · subst h1; exact rightNode_name k n x y s w
 exact rightNode_kind h0 h1 k n x y s w hk
end Go.Proofs.YtimllihegnokeaaGreatDoor.Ex
namespace Go.Proofs.YtimllihegnokeaaGreatDoor.Va
open Go.ChangeShapes Go.WideShapes Go.ChangeAt Go.RowKit Ov Tp
def cwv (r : Int × Nat × Nat) : Value := .tuple #[.int .i64 r.1, .int .i64 (r.2.1 : Int), .int .i64 (r.2.2 : Int)]
theorem ext_list (s : ByteArray) (n : Nat) : (s.extract n s.size).data.toList = s.data.toList.drop n := by rw [ext_drop, tx_list]
theorem ext_size (s : ByteArray) (n : Nat) : (s.extract n s.size).size = s.size - n := by simp
set_option maxHeartbeats 1000000 in
theorem cutWhole_any (s : ByteArray) (w : World) (hs : s.size ≤ 281474976710656) :
 Calls Tryz.prog 261 #[.string s] w fun e w' => e = .returned (cwv (cw s.data.toList)) ∧ w = w' := by
 have HP := Lib.hid (prefix_any s 45)
 by_cases h : s.data.toList.head? = some 45
 · have hd : decide (s.data.toList.head? = some 45) = true := decide_eq_true h
   rw [hd] at HP
   have hsz : 1 ≤ s.size := by
    cases hl : s.data.toList with
    | nil => rw [hl] at h; simp at h
    | cons c t =>
      have := congrArg List.length hl
      simp at this; omega
   have HC := Lib.hid (cutDigits_any (s.extract 1 s.size))
   have HE : Hid (cw s.data.toList = if (cd (s.data.toList.drop 1)).2.2 ≠ 0 then (0, 0, (cd (s.data.toList.drop 1)).2.2) else if (cd (s.data.toList.drop 1)).1 = 0 then (0, 0, 6) else (-((cd (s.data.toList.drop 1)).1 : Int), (cd (s.data.toList.drop 1)).2.1 + 1, 0)) := by
    show _ = _
    unfold cw; rw [if_pos h, List.drop_one]
   have hz2 := ext_size s 1
   rw [ext_list] at HC
   clear h hd
   rcases cd_cases (s.data.toList.drop 1) with ⟨n, z, e⟩ | ⟨k, e, hk, hk'⟩
   · have hb := cd_zero e
     have hb2 : z ≤ s.size := by
      have := hb.2
      rw [List.length_drop] at this
      simp at this; omega
     rw [e] at HC HE
     have HE1 : Hid (cw s.data.toList = if n = 0 then (0, 0, 6) else (-(n : Int), z + 1, 0)) := HE.out.trans (if_neg (by simp))
     obtain ⟨hb1, _⟩ := hb
     clear e HE
     by_cases hn : n = 0
     · subst hn
       have HF := Lib.hid (HE1.out.trans (if_pos rfl))
       clear HE1
       go_enter Tryz.func261, Tryz.ntmps261
       go_wp2_with (fail)
       refine (HP.out _).mono ?_
       rintro e w' ⟨rfl, rfl⟩
       go_wp2_with (fail)
       refine (HC.out _ (by omega)).mono ?_
       rintro e w' ⟨rfl, rfl⟩
       unfold cdv
       go_wp2_with (fail)
       go_ret3
       exact ⟨by rw [HF.out]; rfl, rfl⟩
     · have HF := Lib.hid (HE1.out.trans (if_neg hn))
       have h0 : ((n : Int) == 0) = false := by rw [beq_eq_false_iff_ne]; omega
       clear HE1 hn
       go_enter Tryz.func261, Tryz.ntmps261
       go_wp2_with (fail)
       refine (HP.out _).mono ?_
       rintro e w' ⟨rfl, rfl⟩
       go_wp2_with (fail)
       refine (HC.out _ (by omega)).mono ?_
       rintro e w' ⟨rfl, rfl⟩
       unfold cdv
       go_wp2_with (fail)
       go_ret3
       exact ⟨by rw [HF.out]; rfl, rfl⟩
   · rw [e] at HC HE
     have HF : Hid (cw s.data.toList = (0, 0, k)) := HE.out.trans (if_pos (by show k ≠ 0; omega))
     have h0 : ((k : Int) != 0) = true := by rw [bne_iff_ne]; omega
     clear e HE
     go_enter Tryz.func261, Tryz.ntmps261
     go_wp2_with (fail)
     refine (HP.out _).mono ?_
     rintro e w' ⟨rfl, rfl⟩
     go_wp2_with (fail)
     refine (HC.out _ (by omega)).mono ?_
     rintro e w' ⟨rfl, rfl⟩
     unfold cdv
     go_wp2_with (fail)
     go_ret3
     exact ⟨by rw [HF.out]; rfl, rfl⟩
 · have hd : decide (s.data.toList.head? = some 45) = false := decide_eq_false h
   rw [hd] at HP
   have HC := Lib.hid (cutDigits_any s)
   have HE : Hid (cw s.data.toList = (((cd s.data.toList).1 : Int), (cd s.data.toList).2.1, (cd s.data.toList).2.2)) := if_neg h
   generalize cd s.data.toList = q at *
   obtain ⟨q1, q2, q3⟩ := q
   clear h hd
   go_enter Tryz.func261, Tryz.ntmps261
   go_wp2_with (fail)
   refine (HP.out _).mono ?_
   rintro e w' ⟨rfl, rfl⟩
   go_wp2_with (fail)
   refine (HC.out _ hs).mono ?_
   rintro e w' ⟨rfl, rfl⟩
   unfold cdv
   go_wp2_with (fail)
   go_ret3
   exact ⟨by rw [HE.out]; rfl, rfl⟩
end Go.Proofs.YtimllihegnokeaaGreatDoor.Va
namespace Go.Proofs.YtimllihegnokeaaGreatDoor.Ev
open Ov Tp Ga Va Ex
structure St where
 key : List UInt8
 val : Va
 acc : Va
 i : Int
 it : Va
 out : List (List UInt8 × Va)
inductive Rs (α : Type) where
 | er (x : Int)
 | ok (a : α) (S : St) (n : Nat)
abbrev M (α : Type) := St → Nat → Rs α
def ret {α : Type} (a : α) : M α := fun S n => .ok a S n
def fail {α : Type} (x : Int) : M α := fun _ _ => .er x
def chk (v : Va) : Int ⊕ Va := if rt v = true then .inr v else .inl 14
def qf (a b : Int) : Int := if a.tmod b ≠ 0 ∧ ((a < 0) ≠ (b < 0)) then a.tdiv b - 1 else a.tdiv b
def nums (o a b : Int) : Int ⊕ Va :=
 if o = 2 then chk (nv (a + b)) else if o = 3 then chk (nv (a - b)) else if o = 4 then chk (nv (a * b))
 else if b = 0 then .inl 16 else if o = 5 then chk (nv (qf a b)) else .inr (nv (a - qf a b * b))
def isB (c : UInt8) : Bool := c == 32
def sp (s : List UInt8) : List UInt8 := s.dropWhile isB
def st (s : List UInt8) : List UInt8 := (sp s).takeWhile fun c => !isB c
def bh (s : List UInt8) : List UInt8 := (sp s).dropWhile fun c => !isB c
def fits : List Int → List Va → Bool
 | [], _ => true
 | _ :: _, [] => false
 | k :: ks, v :: vs => (k == -1 || v.k == k) && fits ks vs
end Go.Proofs.YtimllihegnokeaaGreatDoor.Ev
namespace Go.Proofs.YtimllihegnokeaaGreatDoor.Ov
open Go.ChangeShapes Go.WideShapes Go.ChangeAt Go.RowKit
structure Duo (w : World) (b : Nat) (u v : Value) : Prop where
 c0 : w.cell? ⟨b, 0, none⟩ = some u
 c1 : w.cell? ⟨b, 1, none⟩ = some v
 f0 : w.frozen? ⟨b, 0, none⟩ = false
 f1 : w.frozen? ⟨b, 1, none⟩ = false
section
variable {w w' : World} {b : Nat} {u v : Value}
theorem Duo.lt (h : Duo w b u v) : b < w.heap.size := block_lt_of_cell h.c0
theorem Duo.next (h : Duo w b u v) (k : Below w.heap.size w w') : Duo w' b u v :=
 ⟨(k.cell (p := ⟨b, 0, none⟩) h.lt).trans h.c0, (k.cell (p := ⟨b, 1, none⟩) h.lt).trans h.c1, (k.frozen (p := ⟨b, 0, none⟩) h.lt).trans h.f0, (k.frozen (p := ⟨b, 1, none⟩) h.lt).trans h.f1⟩
theorem Duo.old (h : Duo w b u v) (o : Obj) : Duo (w.alloc o) b u v := h.next ((Below.refl _ _).alloc (Nat.le_refl _) _)
theorem Duo.made (w : World) (t : TypeId) (u v : Value) : Duo (w.alloc (.cells #[u, v] t)) w.heap.size u v :=
 ⟨by simp [World.cell?_alloc_new], by simp [World.cell?_alloc_new], by simp [World.frozen?_alloc_new], by simp [World.frozen?_alloc_new]⟩
theorem Duo.drew (h : Duo w b u v) : Duo w.drew b u v := ⟨h.c0, h.c1, h.f0, h.f1⟩
theorem Duo.over (h : Duo w b u v) (q : Over w) : Duo q.val b u v := h.next q.property
theorem Duo.put (h : Duo w b u v) {c : Nat} (hc : c ≠ b) (o : Nat) (z : Value) : Duo (w.setCell ⟨c, o, none⟩ z) b u v :=
 ⟨by rw [World.cell?_setCell_other _ _ _ _ (fun e => hc (congrArg Addr.block e))]; exact h.c0, by rw [World.cell?_setCell_other _ _ _ _ (fun e => hc (congrArg Addr.block e))]; exact h.c1,
  by rw [World.frozen?_setCell]; exact h.f0, by rw [World.frozen?_setCell]; exact h.f1⟩
theorem Duo.put2 (h : Duo w b u v) {c : Nat} (hc : c ≠ b) (y z : Value) : Duo ((w.setCell ⟨c, 0, none⟩ y).setCell ⟨c, 1, none⟩ z) b u v := (h.put hc 0 y).put hc 1 z
theorem Duo.set (h : Duo w b u v) (y z : Value) : Duo ((w.setCell ⟨b, 0, none⟩ y).setCell ⟨b, 1, none⟩ z) b y z := by
 have n1 : (⟨b, 0, none⟩ : Addr) ≠ ⟨b, 1, none⟩ := fun e => by injection e with _ e; cases e
 have c0 : (w.setCell ⟨b, 0, none⟩ y).cell? ⟨b, 0, none⟩ = some y := World.cell?_setCell_same _ _ _ h.c0
 have c1 : (w.setCell ⟨b, 0, none⟩ y).cell? ⟨b, 1, none⟩ = some v := by rw [World.cell?_setCell_other _ _ _ _ n1]; exact h.c1
 exact ⟨by rw [World.cell?_setCell_other _ _ _ _ n1.symm]; exact c0, World.cell?_setCell_same _ _ _ c1, by rw [World.frozen?_setCell, World.frozen?_setCell]; exact h.f0, by rw [World.frozen?_setCell, World.frozen?_setCell]; exact h.f1⟩
theorem below_put2 {B : Nat} {a : World} (h : Below B a w) {c : Nat} (hc : B ≤ c) (y z : Value) : Below B a ((w.setCell ⟨c, 0, none⟩ y).setCell ⟨c, 1, none⟩ z) := (h.setCell (p := ⟨c, 0, none⟩) hc y).setCell (p := ⟨c, 1, none⟩) hc z
theorem Holds.duo {t : TypeId} {y : World} (h : Holds w (.cells #[u, v] t) b y) : Duo y b u v := ⟨h.cell 0, h.cell 1, h.frozen 0, h.frozen 1⟩
theorem Duo.made1 (w : World) (a : Obj) (t : TypeId) (u v : Value) : Duo ((w.alloc a).alloc (.cells #[u, v] t)) (w.heap.size + 1) u v := by
 have h := Duo.made (w.alloc a) t u v; rwa [World.size_alloc] at h
theorem Duo.made2 (w : World) (a b : Obj) (t : TypeId) (u v : Value) : Duo (((w.alloc a).alloc b).alloc (.cells #[u, v] t)) (w.heap.size + 1 + 1) u v := by
 have h := Duo.made ((w.alloc a).alloc b) t u v; rwa [World.size_alloc, World.size_alloc] at h
theorem Duo.made3 (w : World) (a b c : Obj) (t : TypeId) (u v : Value) : Duo ((((w.alloc a).alloc b).alloc c).alloc (.cells #[u, v] t)) (w.heap.size + 1 + 1 + 1) u v := by
 have h := Duo.made (((w.alloc a).alloc b).alloc c) t u v; rwa [World.size_alloc, World.size_alloc, World.size_alloc] at h
variable (t : TypeId) (x1 y1 x2 y2 x3 y3 x4 y4 : Value)
theorem boxes2 (w : World) : Below w.heap.size w ((w.alloc (.cells #[x1, y1] t)).alloc (.cells #[x2, y2] t)) ∧
 Duo ((w.alloc (.cells #[x1, y1] t)).alloc (.cells #[x2, y2] t)) w.heap.size x1 y1 ∧ Duo ((w.alloc (.cells #[x1, y1] t)).alloc (.cells #[x2, y2] t)) (w.heap.size + 1) x2 y2 :=
 ⟨box2 w _ _, (Duo.made w t x1 y1).old _, Duo.made1 w _ t x2 y2⟩
theorem boxes3 (w : World) : Below w.heap.size w (((w.alloc (.cells #[x1, y1] t)).alloc (.cells #[x2, y2] t)).alloc (.cells #[x3, y3] t)) ∧
 Duo (((w.alloc (.cells #[x1, y1] t)).alloc (.cells #[x2, y2] t)).alloc (.cells #[x3, y3] t)) w.heap.size x1 y1 ∧ Duo (((w.alloc (.cells #[x1, y1] t)).alloc (.cells #[x2, y2] t)).alloc (.cells #[x3, y3] t)) (w.heap.size + 1) x2 y2 ∧
 Duo (((w.alloc (.cells #[x1, y1] t)).alloc (.cells #[x2, y2] t)).alloc (.cells #[x3, y3] t)) (w.heap.size + 1 + 1) x3 y3 :=
 ⟨box3 w _ _ _, ((Duo.made w t x1 y1).old _).old _, (Duo.made1 w _ t x2 y2).old _, Duo.made2 w _ _ t x3 y3⟩
theorem boxes4 (w : World) : Below w.heap.size w ((((w.alloc (.cells #[x1, y1] t)).alloc (.cells #[x2, y2] t)).alloc (.cells #[x3, y3] t)).alloc (.cells #[x4, y4] t)) ∧
 Duo ((((w.alloc (.cells #[x1, y1] t)).alloc (.cells #[x2, y2] t)).alloc (.cells #[x3, y3] t)).alloc (.cells #[x4, y4] t)) w.heap.size x1 y1 ∧
 Duo ((((w.alloc (.cells #[x1, y1] t)).alloc (.cells #[x2, y2] t)).alloc (.cells #[x3, y3] t)).alloc (.cells #[x4, y4] t)) (w.heap.size + 1) x2 y2 ∧
 Duo ((((w.alloc (.cells #[x1, y1] t)).alloc (.cells #[x2, y2] t)).alloc (.cells #[x3, y3] t)).alloc (.cells #[x4, y4] t)) (w.heap.size + 1 + 1) x3 y3 ∧
 Duo ((((w.alloc (.cells #[x1, y1] t)).alloc (.cells #[x2, y2] t)).alloc (.cells #[x3, y3] t)).alloc (.cells #[x4, y4] t)) (w.heap.size + 1 + 1 + 1) x4 y4 :=
 ⟨box4 w _ _ _ _, (((Duo.made w t x1 y1).old _).old _).old _, ((Duo.made1 w _ t x2 y2).old _).old _, (Duo.made2 w _ _ t x3 y3).old _, Duo.made3 w _ _ _ t x4 y4⟩
end
end Go.Proofs.YtimllihegnokeaaGreatDoor.Ov
namespace Go.Proofs.YtimllihegnokeaaGreatDoor.Ga
open Go.ChangeShapes Go.WideShapes Go.ChangeAt Go.RowKit Ov
theorem alloc_spot (ρ : Operand → Value) (x : World) (d : Tmp) (p : String) (e : Array Edge) : (execOp ρ { dst := some d, op := Op.alloc 43, type := 0, pos := p, after := e, guard := none }).run Tryz.prog x = .ok (.value (.pointer (some ⟨x.heap.size, 0, none⟩))) (x.alloc (.cells #[.int .i64 0, .int .i64 0] 43)) := by
 simp [execOp, go_sem]
set_option maxHeartbeats 2000000 in
theorem divide_core (x y u v v' z1 z2 n q1 q2 r1 r2 : Int) (fx fy fu fv fv' fp fq re im re2 im2 re3 im3 : Nat) (w : World)
 (HC1 : Hid (∀ w, Calls Tryz.prog 189 #[.agg #[.int .i64 x, .int .i64 y]] w (Gives (.complex .f64 fx fy) w)))
 (HM : Hid (∀ w, Calls Tryz.prog 190 #[.agg #[.int .i64 u, .int .i64 v]] w (Gives (.agg #[.int .i64 u, .int .i64 v']) w)))
 (HC2 : Hid (∀ w, Calls Tryz.prog 189 #[.agg #[.int .i64 u, .int .i64 v']] w (Gives (.complex .f64 fu fv') w)))
 (hm1 : ∀ w : World, (binOp .mul 211 (.complex .f64 fx fy) (.complex .f64 fu fv')).run Tryz.prog w = .ok (.complex .f64 re im) w)
 (HS1 : Hid (∀ w, Calls Tryz.prog 188 #[.complex .f64 re im] w (Gives (.agg #[.int .i64 z1, .int .i64 z2]) w)))
 (HN : Hid (∀ w, Calls Tryz.prog 191 #[.agg #[.int .i64 u, .int .i64 v]] w (Gives (.int .i64 n) w)))
 (HQ1 : Hid (∀ w, Calls Tryz.prog 192 #[.int .i64 z1, .int .i64 n] w (Gives (.int .i64 q1) w)))
 (HQ2 : Hid (∀ w, Calls Tryz.prog 192 #[.int .i64 z2, .int .i64 n] w (Gives (.int .i64 q2) w)))
 (HC3 : Hid (∀ w, Calls Tryz.prog 189 #[.agg #[.int .i64 q1, .int .i64 q2]] w (Gives (.complex .f64 fp fq) w)))
 (HC4 : Hid (∀ w, Calls Tryz.prog 189 #[.agg #[.int .i64 u, .int .i64 v]] w (Gives (.complex .f64 fu fv) w)))
 (hm2 : ∀ w : World, (binOp .mul 211 (.complex .f64 fp fq) (.complex .f64 fu fv)).run Tryz.prog w = .ok (.complex .f64 re2 im2) w)
 (hm3 : ∀ w : World, (binOp .sub 211 (.complex .f64 fx fy) (.complex .f64 re2 im2)).run Tryz.prog w = .ok (.complex .f64 re3 im3) w)
 (HS2 : Hid (∀ w, Calls Tryz.prog 188 #[.complex .f64 re3 im3] w (Gives (.agg #[.int .i64 r1, .int .i64 r2]) w))) :
 Calls Tryz.prog 130 #[.agg #[.int .i64 x, .int .i64 y], .agg #[.int .i64 u, .int .i64 v]] w (Gives (.tuple #[.agg #[.int .i64 q1, .int .i64 q2], .agg #[.int .i64 r1, .int .i64 r2]]) w) := by
 go_enter Tryz.func130, Tryz.ntmps130
 go_wp2_with (fail)
 obtain ⟨hb, d2, d3, d4, d5⟩ := boxes4 43 (.int .i64 x) (.int .i64 y) (.int .i64 u) (.int .i64 v) (.int .i64 0) (.int .i64 0) (.int .i64 0) (.int .i64 0) w
 generalize (((w.alloc (.cells #[.int .i64 x, .int .i64 y] 43)).alloc (.cells #[.int .i64 u, .int .i64 v] 43)).alloc (.cells #[.int .i64 0, .int .i64 0] 43)).alloc (.cells #[.int .i64 0, .int .i64 0] 43) = w0 at *
 have HB := Lib.hid hb; clear hb
 have D2 := Lib.hid d2; have D3 := Lib.hid d3; have D4 := Lib.hid d4; have D5 := Lib.hid d5; clear d2 d3 d4 d5
 refine wp_over_alloc (O := .cells #[.int .i64 0, .int .i64 0] 43) 9 (by kernel_rfl) (by kernel_rfl) rfl rfl rfl (fun ρ x => alloc_spot ρ x _ _ _) (by kernel_rfl) ?_
 simp only [List.take_succ_cons, List.take_zero, List.drop_succ_cons, List.drop_zero]
 apply Exists.intro
 apply And.intro
 · intro x0
   have k1 : ∀ r : Over x0.val, r.val.cell? ⟨w.heap.size, 0, none⟩ = some (.int .i64 x) := fun r => ((D2.out.over x0).over r).c0
   have k2 : ∀ r : Over x0.val, r.val.cell? ⟨w.heap.size, 1, none⟩ = some (.int .i64 y) := fun r => ((D2.out.over x0).over r).c1
   have k3 : ∀ r : Over x0.val, r.val.cell? ⟨w.heap.size + 1, 0, none⟩ = some (.int .i64 u) := fun r => ((D3.out.over x0).over r).c0
   have k4 : ∀ r : Over x0.val, r.val.cell? ⟨w.heap.size + 1, 1, none⟩ = some (.int .i64 v) := fun r => ((D3.out.over x0).over r).c1
   repeat (go_big_quiet_step (first
    | with_reducible exact over_gives _ (HC1.out _)
    | with_reducible exact over_gives _ (HM.out _)
    | with_reducible exact over_gives _ (HC2.out _)
    | with_reducible exact over_gives _ (HS1.out _)
    | with_reducible exact over_gives _ (HN.out _)))
   refine wpQuiet_nil ?_
   rfl
 · rintro b w1 HO
   have hb := HO.1
   have DN := Lib.hid (HO.duo.set (.int .i64 z1) (.int .i64 z2))
   have hlo := HO.2.1
   obtain ⟨c0, c1, f0, f1⟩ := HO.duo
   have l2 := D2.out.lt; have l3 := D3.out.lt; have l4 := D4.out.lt; have l5 := D5.out.lt
   have E2 := Lib.hid ((D2.out.next hb).put2 (c := b) (by omega) (.int .i64 z1) (.int .i64 z2))
   have E3 := Lib.hid ((D3.out.next hb).put2 (c := b) (by omega) (.int .i64 z1) (.int .i64 z2))
   have E4 := Lib.hid ((D4.out.next hb).put2 (c := b) (by omega) (.int .i64 z1) (.int .i64 z2))
   have E5 := Lib.hid ((D5.out.next hb).put2 (c := b) (by omega) (.int .i64 z1) (.int .i64 z2))
   have HB2 := Lib.hid (below_put2 (Below.next HB.out hb) (c := b) (by omega) (.int .i64 z1) (.int .i64 z2))
   have hbl : b < w1.heap.size := block_lt_of_cell c0
   have HN4 : Hid (w.heap.size + 1 + 1 < b) := Lib.hid (by omega)
   have HN5 : Hid (w.heap.size + 1 + 1 + 1 < b) := Lib.hid (by omega)
   clear hb HO D2 D3 D4 D5 HB
   simp only [Act.put, List.setIfInBounds_toArray, List.set_cons_zero, List.set_cons_succ]
   go_wp2_with (fail)
   generalize ((w1.setCell ⟨b, 0, none⟩ (.int .i64 z1)).setCell ⟨b, 1, none⟩ (.int .i64 z2)) = w2 at *
   clear c0 c1 f0 f1 hbl hlo l2 l3 l4 l5
   have n2 : b ≠ w.heap.size + 1 + 1 := Nat.ne_of_gt HN4.out
   have n3 : b ≠ w.heap.size + 1 + 1 + 1 := Nat.ne_of_gt HN5.out
   refine wp_over_alloc (O := .cells #[.int .i64 0, .int .i64 0] 43) 9 (by kernel_rfl) (by kernel_rfl) rfl rfl rfl (fun ρ x => alloc_spot ρ x _ _ _) (by kernel_rfl) ?_
   simp only [List.take_succ_cons, List.take_zero, List.drop_succ_cons, List.drop_zero]
   apply Exists.intro
   apply And.intro
   · intro x0
     have k1 : ∀ r : Over x0.val, r.val.cell? ⟨b, 0, none⟩ = some (.int .i64 z1) := fun r => ((DN.out.over x0).over r).c0
     have k2 : ∀ r : Over x0.val, r.val.cell? ⟨b, 1, none⟩ = some (.int .i64 z2) := fun r => ((DN.out.over x0).over r).c1
     repeat (go_big_quiet_step (first
      | with_reducible exact over_gives _ (HQ1.out _)
      | with_reducible exact over_gives _ (HQ2.out _)))
     refine wpQuiet_nil ?_
     rfl
   · rintro c w3 HO
     have hb := HO.1
     have hlo := HO.2.1
     have l2 := E2.out.lt; have l3 := E3.out.lt; have l4 := E4.out.lt; have l5 := E5.out.lt
     have DC := Lib.hid (HO.duo.set (.int .i64 q1) (.int .i64 q2))
     have F2 := Lib.hid ((E2.out.next hb).put2 (c := c) (by omega) (.int .i64 q1) (.int .i64 q2))
     have F3 := Lib.hid ((E3.out.next hb).put2 (c := c) (by omega) (.int .i64 q1) (.int .i64 q2))
     have F4 := Lib.hid ((E4.out.next hb).put2 (c := c) (by omega) (.int .i64 q1) (.int .i64 q2))
     have F5 := Lib.hid ((E5.out.next hb).put2 (c := c) (by omega) (.int .i64 q1) (.int .i64 q2))
     have HB3 := Lib.hid (below_put2 (Below.next HB2.out hb) (c := c) (by have := HB2.out.size; omega) (.int .i64 q1) (.int .i64 q2))
     obtain ⟨c0, c1, f0, f1⟩ := HO.duo
     have hbl : c < w3.heap.size := block_lt_of_cell c0
     clear hb HO E2 E3 E4 E5 HB2 DN
     simp only [Act.put, List.setIfInBounds_toArray, List.set_cons_zero, List.set_cons_succ]
     go_wp2_with (fail)
     generalize ((w3.setCell ⟨c, 0, none⟩ (.int .i64 q1)).setCell ⟨c, 1, none⟩ (.int .i64 q2)) = w4 at *
     clear c0 c1 f0 f1 hbl hlo l2 l3 l4 l5
     have k1 : ∀ r : Over w4, r.val.cell? ⟨w.heap.size, 0, none⟩ = some (.int .i64 x) := fun r => (F2.out.over r).c0
     have k2 : ∀ r : Over w4, r.val.cell? ⟨w.heap.size, 1, none⟩ = some (.int .i64 y) := fun r => (F2.out.over r).c1
     have k3 : ∀ r : Over w4, r.val.cell? ⟨w.heap.size + 1, 0, none⟩ = some (.int .i64 u) := fun r => (F3.out.over r).c0
     have k4 : ∀ r : Over w4, r.val.cell? ⟨w.heap.size + 1, 1, none⟩ = some (.int .i64 v) := fun r => (F3.out.over r).c1
     have k5 : ∀ r : Over w4, r.val.cell? ⟨c, 0, none⟩ = some (.int .i64 q1) := fun r => (DC.out.over r).c0
     have k6 : ∀ r : Over w4, r.val.cell? ⟨c, 1, none⟩ = some (.int .i64 q2) := fun r => (DC.out.over r).c1
     refine wp_over_tail 10 (by kernel_rfl) (by kernel_rfl) ?_
     simp only [List.take_succ_cons, List.take_zero, List.drop_succ_cons, List.drop_zero]
     repeat (go_big_quiet_step (first
      | with_reducible exact over_gives _ (HC1.out _)
      | with_reducible exact over_gives _ (HC3.out _)
      | with_reducible exact over_gives _ (HC4.out _)
      | with_reducible exact over_gives _ (HS2.out _)))
     refine wpQuiet_nil ?_
     rintro w5 ⟨⟨w5, hb⟩, rfl⟩
     have HB4 := Lib.hid (Below.next HB3.out hb)
     obtain ⟨c0, c1, f0, f1⟩ := F4.out.next hb
     obtain ⟨e0, e1, g0, g1⟩ := F5.out.next hb
     have hz := (F5.out.next hb).lt
     have hz4 := (F4.out.next hb).lt
     clear hb k1 k2 k3 k4 k5 k6 n2 n3
     go_wp2_with (fail)
     refine bodyPost_ret (v := .tuple #[.agg #[.int .i64 q1, .int .i64 q2], .agg #[.int .i64 r1, .int .i64 r2]]) (by simp [results, Tryz.results130, go_sem, c0, c1, e0, e1]) rfl ⟨rfl, ?_⟩
     exact below_put2 (below_put2 HB4.out (c := w.heap.size + 1 + 1) (by omega) _ _) (c := w.heap.size + 1 + 1 + 1) (by omega) _ _
theorem sum_le {a b : Int} (h1 : -281474976710656 ≤ a ∧ a ≤ 281474976710656) (h2 : -281474976710656 ≤ b ∧ b ≤ 281474976710656) :
 (-562949953421312 ≤ a + b ∧ a + b ≤ 562949953421312) ∧ (-562949953421312 ≤ a - b ∧ a - b ≤ 562949953421312) := by omega
theorem run_csub {x y p q : Int} {re im : Nat} (hx : -16777216 ≤ x ∧ x ≤ 16777216) (hy : -16777216 ≤ y ∧ y ≤ 16777216) (hr : Is re p) (hi : Is im q) (hp : -562949953421312 ≤ p ∧ p ≤ 562949953421312) (hq : -562949953421312 ≤ q ∧ q ≤ 562949953421312) :
 ∃ a b, (∀ w : World, (binOp .sub 211 (.complex .f64 (floatOfInt .f64 x) (floatOfInt .f64 y)) (.complex .f64 re im)).run Tryz.prog w = .ok (.complex .f64 a b) w) ∧ Is a (x - p) ∧ Is b (y - q) := by
 obtain ⟨a, b, h, h1, h2⟩ := csub (Is.ofInt (n := x) (by omega)) (Is.ofInt (n := y) (by omega)) hr hi (by omega) (by omega)
 exact ⟨a, b, fun w => run_complex_sum w .sub (.inr rfl) _ _ _ _ _ _ _ _ h, h1, h2⟩
theorem divide_any {x y u v : Int} (ha : rb ⟨x, y⟩ = true) (hb : rb ⟨u, v⟩ = true) (h0 : (⟨u, v⟩ : Pt) ≠ Pt.zero) (w : World) :
 Calls Tryz.prog 130 #[.agg #[.int .i64 x, .int .i64 y], .agg #[.int .i64 u, .int .i64 v]] w
  (Gives (.tuple #[.agg #[.int .i64 (Pt.quo ⟨x, y⟩ ⟨u, v⟩).x, .int .i64 (Pt.quo ⟨x, y⟩ ⟨u, v⟩).y], .agg #[.int .i64 (Pt.rest ⟨x, y⟩ ⟨u, v⟩).x, .int .i64 (Pt.rest ⟨x, y⟩ ⟨u, v⟩).y]]) w) := by
 obtain ⟨hx, hy⟩ := rb_xy ha
 obtain ⟨hu, hv⟩ := rb_xy hb
 have hv' : -16777216 ≤ -v ∧ -v ≤ 16777216 := by omega
 obtain ⟨hp, hq⟩ := rb_yes (Pt.quo_right ha h0)
 obtain ⟨hr1, hr2⟩ := rb_yes (Pt.rest_right (a := ⟨x, y⟩) hb h0)
 obtain ⟨re, im, hm1, i1, i2⟩ := run_cmul hx hy hu hv'
 obtain ⟨re2, im2, hm2, j1, j2⟩ := run_cmul hp hq hu hv
 obtain ⟨s1, s1'⟩ := sum_le (mul_big hx hu) (mul_big hy hv')
 obtain ⟨s2, s2'⟩ := sum_le (mul_big hx hv') (mul_big hy hu)
 obtain ⟨s3, s3'⟩ := sum_le (mul_big hp hu) (mul_big hq hv)
 obtain ⟨s4, s4'⟩ := sum_le (mul_big hp hv) (mul_big hq hu)
 obtain ⟨re3, im3, hm3, k1, k2⟩ := run_csub hx hy j1 j2 s3' s4
 obtain ⟨s5, s5'⟩ := sum_le (mul_big hu hu) (mul_big hv hv)
 have hn : 0 < Pt.norm ⟨u, v⟩ := Pt.norm_pos h0
 refine divide_core x y u v (-v) (x * u - y * -v) (x * -v + y * u) (u * u + v * v) _ _ _ _ _ _ _ _ _ _ _ re im re2 im2 re3 im3 w (Lib.hid (complex_any x y)) (Lib.hid (mirror_any hv)) (Lib.hid (complex_any u (-v))) hm1
  (Lib.hid (spot_any i1 i2 (by omega) (by omega))) (Lib.hid (norm_any hu hv)) (Lib.hid fun w => ?_) (Lib.hid fun w => ?_) (Lib.hid (complex_any _ _)) (Lib.hid (complex_any u v)) hm2 hm3
  (Lib.hid (spot_any k1 k2 ?_ ?_))
 · exact (nearest_any (n := x * u - y * -v) (d := u * u + v * v) (by omega) (by omega) hn (by omega) w).mono fun e w' h => ⟨h.1, by rw [← h.2]; exact Below.refl _ _⟩
 · exact (nearest_any (n := x * -v + y * u) (d := u * u + v * v) (by omega) (by omega) hn (by omega) w).mono fun e w' h => ⟨h.1, by rw [← h.2]; exact Below.refl _ _⟩
 · omega
 · omega
def RelT (x y : Int) (N : Nat) (C I : Value) : Prop := ∃ (k re im : Nat), k ≤ N ∧ I = .int .i64 (k : Int) ∧ C = .complex .f64 re im ∧ Is re (Pt.turns k ⟨x, y⟩).x ∧ Is im (Pt.turns k ⟨x, y⟩).y
set_option maxHeartbeats 1000000 in
theorem turn_any {x y : Int} (h : rb ⟨x, y⟩ = true) (N : Nat) (hN : N ≤ 3) (w : World) :
 Calls Tryz.prog 193 #[.agg #[.int .i64 x, .int .i64 y], .int .i64 (N : Int)] w (Gives (.agg #[.int .i64 (Pt.turns N ⟨x, y⟩).x, .int .i64 (Pt.turns N ⟨x, y⟩).y]) w) := by
 have hr : ∀ k, (-16777216 ≤ (Pt.turns k ⟨x, y⟩).x ∧ (Pt.turns k ⟨x, y⟩).x ≤ 16777216) ∧ (-16777216 ≤ (Pt.turns k ⟨x, y⟩).y ∧ (Pt.turns k ⟨x, y⟩).y ≤ 16777216) := fun k => rb_yes (Pt.turns_right k h)
 have HT := Lib.hid hr; clear hr
 obtain ⟨hx, hy⟩ := rb_xy h
 have i1 : Is (floatOfInt .f64 x) x := Is.ofInt (by omega)
 have i2 : Is (floatOfInt .f64 y) y := Is.ofInt (by omega)
 have HC := Lib.hid (complex_any x y)
 generalize floatOfInt .f64 x = fx at *
 generalize floatOfInt .f64 y = fy at *
 have I1 := Lib.hid i1; have I2 := Lib.hid i2; clear i1 i2 hx hy h
 go_enter Tryz.func193, Tryz.ntmps193
 go_wp2_with (fail)
 refine (HC.out _).mono ?_
 rintro e w1 ⟨rfl, hb⟩
 obtain ⟨h2, d0, d1⟩ := boxes2 43 (.int .i64 x) (.int .i64 y) (.int .i64 0) (.int .i64 0) w
 have HB := Lib.hid (Below.next h2 hb)
 have HD := Lib.hid (d1.next hb)
 clear hb h2 d0 d1
 go_wp2_with (fail)
 go_loop [5, 9] (fun C I => RelT x y N C I) (fun _ I => N - (intOf I).toNat)
 case atStart => exact ⟨0, fx, fy, by omega, rfl, rfl, I1.out, I2.out⟩
 case round =>
  obtain ⟨k, re, im, hk, rfl, rfl, j1, j2⟩ := hrel
  by_cases hlt : k < N
  · obtain ⟨b1, b2⟩ := HT.out k
    obtain ⟨re', im', hm, m1, m2⟩ := cmul j1 j2 Is.zero Is.one (by omega) (by omega) (by omega) (by omega)
    have hrun : ∀ w : World, (binOp .mul 211 (.complex .f64 re im) (.complex .f64 0 4607182418800017408)).run Tryz.prog w = .ok (.complex .f64 re' im') w := fun w => run_complex_mul w _ _ _ _ _ _ _ hm
    have M1 : Hid (Is re' (Pt.turns (k + 1) ⟨x, y⟩).x) := by
     show Is re' (-(Pt.turns k ⟨x, y⟩).y)
     rwa [show (Pt.turns k ⟨x, y⟩).x * 0 - (Pt.turns k ⟨x, y⟩).y * 1 = -(Pt.turns k ⟨x, y⟩).y by omega] at m1
    have M2 : Hid (Is im' (Pt.turns (k + 1) ⟨x, y⟩).y) := by
     show Is im' ((Pt.turns k ⟨x, y⟩).x)
     rwa [show (Pt.turns k ⟨x, y⟩).x * 1 + (Pt.turns k ⟨x, y⟩).y * 0 = (Pt.turns k ⟨x, y⟩).x by omega] at m2
    clear hm m1 m2 j1 j2 b1 b2
    go_wp2_with (fail)
    go_round
    case rel => exact ⟨k + 1, re', im', by omega, by go_num, rfl, M1.out, M2.out⟩
    case measure => simp [intOf]; omega
  · obtain rfl : k = N := by omega
    obtain ⟨b1, b2⟩ := HT.out k
    have HS := Lib.hid (spot_any j1 j2 (by omega) (by omega))
    generalize (Pt.turns k ⟨x, y⟩).x = p at *
    generalize (Pt.turns k ⟨x, y⟩).y = q at *
    clear j1 j2 b1 b2
    go_wp2_with (fail)
    refine (HS.out _).mono ?_
    rintro e w2 ⟨rfl, hb⟩
    have HB2 := Lib.hid (Below.next HB.out hb)
    have hz := (HD.out.next hb).lt
    obtain ⟨e0, e1, g0, g1⟩ := HD.out.next hb
    clear hb
    go_wp2_with (fail)
    refine bodyPost_ret (v := .agg #[.int .i64 p, .int .i64 q]) (by simp [results, Tryz.results193, go_sem, e0, e1]) rfl ⟨rfl, ?_⟩
    exact below_put2 HB2.out (c := w.heap.size + 1) (by omega) _ _
def left (a : Pt) : Nat := if (0 < a.x ∧ 0 ≤ a.y) ∨ (a.x = 0 ∧ a.y = 0) then 0 else if a.y < 0 ∧ 0 ≤ a.x then 1 else if a.x < 0 ∧ a.y ≤ 0 then 2 else 3
theorem left_turn {a : Pt} (h : ¬ ((0 < a.x ∧ 0 ≤ a.y) ∨ (a.x = 0 ∧ a.y = 0))) : left a.turn < left a := by
 have tx : a.turn.x = -a.y := rfl
 have ty : a.turn.y = a.x := rfl
 unfold left
 rw [if_neg h, tx, ty]
 repeat' split
 all_goals omega
structure RelF (x y : Int) (w : World) (b c : Nat) (wr : World) (p q : Int) : Prop where
 right : rb ⟨p, q⟩ = true
 same : Pt.fs ⟨p, q⟩ = Pt.fs ⟨x, y⟩
 own : Duo wr b (.int .i64 p) (.int .i64 q)
 res : Duo wr c (.int .i64 0) (.int .i64 0)
 below : Below w.heap.size w wr
def cellInt (w : World) (b o : Nat) : Int := match w.cell? ⟨b, o, none⟩ with | some (.int _ n) => n | _ => 0
theorem cellInt_of {w : World} {b o : Nat} {k : IntKind} {n : Int} (h : w.cell? ⟨b, o, none⟩ = some (.int k n)) : cellInt w b o = n := by unfold cellInt; rw [h]
set_option maxHeartbeats 1000000 in
theorem first_any {x y : Int} (h : rb ⟨x, y⟩ = true) (w : World) :
 Calls Tryz.prog 131 #[.agg #[.int .i64 x, .int .i64 y]] w (Gives (.agg #[.int .i64 (Pt.fs ⟨x, y⟩).x, .int .i64 (Pt.fs ⟨x, y⟩).y]) w) := by
 have H := Lib.hid h; clear h
 go_enter Tryz.func131, Tryz.ntmps131
 go_wp2_with (fail)
 obtain ⟨h2, d0, d1⟩ := boxes2 43 (.int .i64 x) (.int .i64 y) (.int .i64 0) (.int .i64 0) w
 have HW : Hid (∃ p q, RelF x y w w.heap.size (w.heap.size + 1) ((w.alloc (.cells #[.int .i64 x, .int .i64 y] 43)).alloc (.cells #[.int .i64 0, .int .i64 0] 43)) p q) := Lib.hid ⟨x, y, H.out, rfl, d0, d1, h2⟩
 clear h2 d0 d1
 go_loopw [] (fun wr => ∃ p q, RelF x y w w.heap.size (w.heap.size + 1) wr p q) (fun wr => left ⟨cellInt wr w.heap.size 0, cellInt wr w.heap.size 1⟩)
 case atStart => exact HW.out
 case round =>
  obtain ⟨p, q, hF⟩ := hrel
  have HF := Lib.hid hF
  have HM1 : Hid (cellInt wr w.heap.size 0 = p) := Lib.hid (cellInt_of hF.own.c0)
  have HM2 : Hid (cellInt wr w.heap.size 1 = q) := Lib.hid (cellInt_of hF.own.c1)
  obtain ⟨c0, c1, f0, f1⟩ := hF.own
  obtain ⟨e0, e1, g0, g1⟩ := hF.res
  clear hF
  by_cases hd : (0 < p ∧ 0 ≤ q) ∨ (p = 0 ∧ q = 0)
  · have HE : Hid (Pt.fs ⟨x, y⟩ = ⟨p, q⟩) := by
     show _ = _
     rw [← HF.out.same]
     exact Pt.fs_done (hd.imp id (fun h => Pt.ext h.1 h.2))
    have hz := HF.out.res.lt
    have p0 : ¬ p < 0 := by omega
    have q0 : ¬ q < 0 := by omega
    by_cases hp : p = 0
    · have q1 : ¬ 0 < q := by omega
      have hpb : (p == 0) = true := beq_iff_eq.2 hp
      clear hd hp
      go_wp2_with (fail)
      refine bodyPost_ret (v := .agg #[.int .i64 p, .int .i64 q]) (by simp [results, Tryz.results131, go_sem, e0, e1]) rfl ⟨by rw [HE.out], ?_⟩
      exact below_put2 HF.out.below (c := w.heap.size + 1) (by omega) _ _
    · have hpb : (p == 0) = false := beq_eq_false_iff_ne.2 hp
      clear hd hp
      go_wp2_with (fail)
      refine bodyPost_ret (v := .agg #[.int .i64 p, .int .i64 q]) (by simp [results, Tryz.results131, go_sem, e0, e1]) rfl ⟨by rw [HE.out], ?_⟩
      exact below_put2 HF.out.below (c := w.heap.size + 1) (by omega) _ _
  · have HT : Hid (∀ w, Calls Tryz.prog 193 #[.agg #[.int .i64 p, .int .i64 q], .int .i64 1] w (Gives (.agg #[.int .i64 (-q), .int .i64 p]) w)) := Lib.hid (turn_any HF.out.right 1 (by omega))
    have HL : Hid (left ⟨-q, p⟩ < left ⟨p, q⟩) := Lib.hid (left_turn (a := ⟨p, q⟩) hd)
    have HS : Hid (Pt.fs ⟨-q, p⟩ = Pt.fs ⟨x, y⟩) := Lib.hid ((Pt.fs_turn (a := ⟨p, q⟩) (fun h => hd (.inl h)) (fun h => hd (.inr (by injection h with h1 h2; exact ⟨h1, h2⟩)))).trans HF.out.same)
    have HR : Hid (rb ⟨-q, p⟩ = true) := Lib.hid (Pt.turn_right HF.out.right)
    have hcase : p < 0 ∨ (¬ p < 0 ∧ q < 0) ∨ (¬ p < 0 ∧ ¬ q < 0 ∧ (p == 0) = true ∧ 0 < q) := by
     by_cases a1 : p < 0
     · exact .inl a1
     · by_cases a2 : q < 0
       · exact .inr (.inl ⟨a1, a2⟩)
       · exact .inr (.inr ⟨a1, a2, beq_iff_eq.2 (by omega), by omega⟩)
    clear hd
    generalize -q = q' at *
    rcases hcase with a1 | ⟨a1, a2⟩ | ⟨a1, a2, a3, a4⟩
    all_goals
     go_wp2_with (fail)
     refine (HT.out _).mono ?_
     rintro e w2 ⟨rfl, hb⟩
     have HO := Lib.hid ((HF.out.own.next hb).set (.int .i64 q') (.int .i64 p))
     have HP := Lib.hid ((HF.out.res.next hb).put2 (c := w.heap.size) (by omega) (.int .i64 q') (.int .i64 p))
     have HB := Lib.hid (below_put2 (HF.out.below.trans (hb.mono HF.out.below.size)) (c := w.heap.size) (Nat.le_refl _) (.int .i64 q') (.int .i64 p))
     obtain ⟨d0, d1, h0, h1⟩ := HF.out.own.next hb
     have hz := (HF.out.own.next hb).lt
     clear hb c0 c1 f0 f1 e0 e1 g0 g1
     go_wp2_with (fail)
     go_roundw
     case rel => exact ⟨q', p, HR.out, HS.out, HO.out, HP.out, HB.out⟩
     case measure =>
      rw [HM1.out, HM2.out, cellInt_of HO.out.c0, cellInt_of HO.out.c1]
      exact HL.out
theorem not_zero {u v : Int} (h : (⟨u, v⟩ : Pt) ≠ Pt.zero) : (u == 0) = false ∨ ((u == 0) = true ∧ (v == 0) = false) := by
 by_cases hu : u = 0
 · exact .inr ⟨beq_iff_eq.2 hu, beq_eq_false_iff_ne.2 fun hv => h (Pt.ext hu hv)⟩
 · exact .inl (beq_eq_false_iff_ne.2 hu)
end Go.Proofs.YtimllihegnokeaaGreatDoor.Ga
namespace Go.Proofs.YtimllihegnokeaaGreatDoor.Ev
open Go.ChangeShapes Go.WideShapes Go.ChangeAt Go.RowKit Ov Va Ga
end Go.Proofs.YtimllihegnokeaaGreatDoor.Ev
namespace Go.Proofs.YtimllihegnokeaaGreatDoor.Ev
open Go.ChangeShapes Go.WideShapes Go.ChangeAt Go.RowKit Ov Va Ga Ex
end Go.Proofs.YtimllihegnokeaaGreatDoor.Ev
namespace Go.Proofs.YtimllihegnokeaaGreatDoor.Va
open Go.ChangeShapes Go.WideShapes Go.ChangeAt Go.RowKit Ov Ga Tp
set_option maxHeartbeats 1000000 in
theorem write_text {n x y : Int} {s : ByteArray} (h : rt ⟨1, n, s.data.toList, x, y⟩ = true) (w : World) : Calls Tryz.prog 108 #[.agg #[.int .i64 1, .int .i64 n, .string s, .int .i64 x, .int .i64 y]] w (Gives (.string (tx (wr ⟨1, n, s.data.toList, x, y⟩))) w) := by
 have hs : s.size ≤ 4096 := by
  have := rt_yes h
  simp at this; exact this.2.1
 have HR := Lib.hid (right_val 1 n x y s); rw [h] at HR; clear h
 have HT := Lib.hid (fun w => writeText_any s w hs)
 rw [wr_text]
 generalize tx (34 :: (esc s.data.toList ++ [34])) = t at *
 go_enter Tryz.func108, Tryz.ntmps108
 go_wp2_with (fail)
 have kb := box1 w (.cells #[.int .i64 1, .int .i64 n, .string s, .int .i64 x, .int .i64 y] 45)
 have D := Blk.made w 45 (vcs 1 n s x y) rfl
 change Blk (w.alloc (.cells #[.int .i64 1, .int .i64 n, .string s, .int .i64 x, .int .i64 y] 45)) w.heap.size _ at D
 generalize w.alloc (.cells #[.int .i64 1, .int .i64 n, .string s, .int .i64 x, .int .i64 y] 45) = v at *
 refine (HR.out _).mono ?_
 rintro e w1 ⟨rfl, hb⟩
 have HB := Lib.hid (Below.next kb hb)
 have D1 := Lib.hid (D.next hb)
 clear hb kb D
 have c0 := D1.out.v0; have c1 := D1.out.v1; have c2 := D1.out.v2; have c3 := D1.out.v3; have c4 := D1.out.v4
 go_wp2_with (fail)
 clear c0 c1 c2 c3 c4
 refine (HT.out _).mono ?_
 rintro e w2 ⟨rfl, hb⟩
 have HB2 := Lib.hid (Below.next HB.out hb)
 clear hb
 go_wp2_with (fail)
 go_ret
 exact ⟨rfl, HB2.out⟩
theorem itoa_le (n : Int) (h : -9007199254740992 ≤ n ∧ n ≤ 9007199254740992) : (tx (Lib.itoa n)).size ≤ 21 := by
 rw [tx_size]; exact Lib.itoa_length_le n (by omega) (by omega)
set_option maxHeartbeats 1000000 in
theorem write_int {n x y : Int} {s : ByteArray} (h : rt ⟨0, n, s.data.toList, x, y⟩ = true) (w : World) (ht : Tab w) : Calls Tryz.prog 108 #[.agg #[.int .i64 0, .int .i64 n, .string s, .int .i64 x, .int .i64 y]] w (Gives (.string (tx (wr ⟨0, n, s.data.toList, x, y⟩))) w) := by
 have hr : -9007199254740992 ≤ n ∧ n ≤ 9007199254740992 := by
  rw [rt_int, Bool.and_eq_true, Bool.and_eq_true, decide_eq_true_eq, decide_eq_true_eq] at h; exact h.2
 have HR := Lib.hid (right_val 0 n x y s); rw [h] at HR; clear h
 have HT := Lib.hid ht; clear ht
 have HI := Lib.hid (itoa_any n (by omega) (by omega))
 clear hr
 rw [wr_int]
 generalize tx (Lib.itoa n) = t at *
 go_enter Tryz.func108, Tryz.ntmps108
 go_wp2_with (fail)
 have kb := box1 w (.cells #[.int .i64 0, .int .i64 n, .string s, .int .i64 x, .int .i64 y] 45)
 have D := Blk.made w 45 (vcs 0 n s x y) rfl
 change Blk (w.alloc (.cells #[.int .i64 0, .int .i64 n, .string s, .int .i64 x, .int .i64 y] 45)) w.heap.size _ at D
 generalize w.alloc (.cells #[.int .i64 0, .int .i64 n, .string s, .int .i64 x, .int .i64 y] 45) = v at *
 refine (HR.out _).mono ?_
 rintro e w1 ⟨rfl, hb⟩
 have HB := Lib.hid (Below.next kb hb)
 have D1 := Lib.hid (D.next hb)
 clear hb kb D
 have c0 := D1.out.v0; have c1 := D1.out.v1; have c2 := D1.out.v2; have c3 := D1.out.v3; have c4 := D1.out.v4
 go_wp2_with (fail)
 clear c0 c1 c2 c3 c4
 refine (HI.out _ (HT.out.next HB.out)).mono ?_
 rintro e w2 ⟨rfl, hb⟩
 have HB2 := Lib.hid (Below.next HB.out hb)
 clear hb
 go_wp2_with (fail)
 go_ret
 exact ⟨rfl, HB2.out⟩
set_option maxHeartbeats 1000000 in
theorem write_point {n x y : Int} {s : ByteArray} (h : rt ⟨2, n, s.data.toList, x, y⟩ = true) (w : World) (ht : Tab w) : Calls Tryz.prog 108 #[.agg #[.int .i64 2, .int .i64 n, .string s, .int .i64 x, .int .i64 y]] w (Gives (.string (tx (wr ⟨2, n, s.data.toList, x, y⟩))) w) := by
 have hr := rb_xy (by rw [rt_point, Bool.and_eq_true] at h; exact h.2 : rb ⟨x, y⟩ = true)
 have HR := Lib.hid (right_val 2 n x y s); rw [h] at HR; clear h
 have HT := Lib.hid ht; clear ht
 have HA := Lib.hid (itoa_any x (by omega) (by omega))
 have HC := Lib.hid (itoa_any y (by omega) (by omega))
 have z2 := itoa_le x (by omega)
 have z3 := itoa_le y (by omega)
 clear hr
 have HE : Hid (tx (Lib.itoa x) ++ ⟨#[58]⟩ ++ tx (Lib.itoa y) = tx (wr ⟨2, n, s.data.toList, x, y⟩)) := by
  show _ = _
  rw [wr_point, show (⟨#[58]⟩ : ByteArray) = tx [58] from rfl, tx_append, tx_append]
 generalize tx (Lib.itoa x) = a at *
 generalize tx (Lib.itoa y) = b at *
 have g1 : ¬ a.size + 1 > 9223372036854775807 := by omega
 have g2 : ¬ a.size + 1 + b.size > 9223372036854775807 := by omega
 clear z2 z3
 go_enter Tryz.func108, Tryz.ntmps108
 go_wp2_with (fail)
 have kb := box1 w (.cells #[.int .i64 2, .int .i64 n, .string s, .int .i64 x, .int .i64 y] 45)
 have D := Blk.made w 45 (vcs 2 n s x y) rfl
 change Blk (w.alloc (.cells #[.int .i64 2, .int .i64 n, .string s, .int .i64 x, .int .i64 y] 45)) w.heap.size _ at D
 generalize w.alloc (.cells #[.int .i64 2, .int .i64 n, .string s, .int .i64 x, .int .i64 y] 45) = v at *
 refine (HR.out _).mono ?_
 rintro e w1 ⟨rfl, hb⟩
 have HB := Lib.hid (Below.next kb hb)
 have D1 := Lib.hid (D.next hb)
 clear hb kb D
 have c0 := D1.out.v0; have c1 := D1.out.v1; have c2 := D1.out.v2; have c3 := D1.out.v3; have c4 := D1.out.v4
 go_wp2_with (fail)
 clear c0 c1 c2 c3 c4
 have KA := Lib.hid (fun q : Over w1 => HA.out q.val ((HT.out.next HB.out).next q.property))
 have KC := Lib.hid (fun q : Over w1 => HC.out q.val ((HT.out.next HB.out).next q.property))
 have D2 := D1.out
 have k3 := fun r : Over w1 => (D2.over r).v3
 have k4 := fun r : Over w1 => (D2.over r).v4
 clear D2
 refine wp_over (by kernel_rfl) (by kernel_rfl) ?_
 repeat (go_big_quiet_step (first | fail | with_reducible exact over_gives _ (KA.out _) | with_reducible exact over_gives _ (KC.out _)))
 refine wpQuiet_nil ?_
 rintro w3 ⟨⟨w3, hb⟩, rfl⟩
 have HB3 := Lib.hid (Below.next HB.out hb)
 clear hb k3 k4
 go_wp2_with (fail)
 go_ret
 exact ⟨ret_str HE.out, HB3.out⟩
theorem write_yes {k n x y : Int} {s : ByteArray} (h : rt ⟨k, n, s.data.toList, x, y⟩ = true) (w : World) (ht : Tab w) : Calls Tryz.prog 108 #[.agg #[.int .i64 k, .int .i64 n, .string s, .int .i64 x, .int .i64 y]] w (Gives (.string (tx (wr ⟨k, n, s.data.toList, x, y⟩))) w) := by
 by_cases h0 : k = 0
 · subst h0; exact write_int h w ht
 by_cases h1 : k = 1
 · subst h1; exact write_text h w
 by_cases h2 : k = 2
 · subst h2; exact write_point h w ht
 rw [rt_kind n x y _ h0 h1 h2] at h; cases h
end Go.Proofs.YtimllihegnokeaaGreatDoor.Va
namespace Go.Proofs.YtimllihegnokeaaGreatDoor.Va
open Go.ChangeShapes Go.WideShapes Go.ChangeAt Go.RowKit Ov Ga
theorem over_id {w : World} {P : Program} {f : FuncId} {args : Array Value} {v : Value} (q : Over w) (h : Calls P f args q.val fun e w' => e = .returned v ∧ q.val = w') :
 Calls P f args q.val fun e w' => e = .returned v ∧ ∃ q' : Over w, w' = q'.val := h.mono fun _ _ ⟨he, hw⟩ => ⟨he, q, hw.symm⟩
def orl : List Int → Int
 | [] => 0
 | a :: t => if a ≠ 0 then a else orl t
theorem orl4 (a b c d : Int) : orl [a, b, c, d] = or4 a b c d := by
 unfold or4; simp only [orl]
 split
 · rfl
 · split
   · rfl
   · split
     · rfl
     · split
       · rfl
       · omega
theorem orl_drop {l : List Int} {k : Nat} (h : k < l.length) : orl (l.drop k) = if l[k] ≠ 0 then l[k] else orl (l.drop (k + 1)) := by
 rw [List.drop_eq_getElem_cons h]; rfl
set_option maxHeartbeats 1000000 in
theorem or_any (l : List Int) (b : Nat) (w : World) (h : Blk w b (l.map fun a => Value.int .i64 a)) (hl : l.length ≤ 4) : Calls Tryz.prog 124 #[.slice (some ⟨b, 0, none⟩) l.length l.length] w fun e w' => e = .returned (.int .i64 (orl l)) ∧ w = w' := by
 have H := Lib.hid h; clear h
 obtain ⟨n, hn⟩ : ∃ n, l.length = n := ⟨_, rfl⟩
 rw [hn] at hl ⊢
 have HN := Lib.hid hn; clear hn
 go_enter Tryz.func124, Tryz.ntmps124
 go_wp2_with (fail)
 go_loop [5, 8] (fun _ i => ∃ k : Nat, k ≤ n ∧ i = .int .i64 k ∧ orl l = orl (l.drop k)) (fun _ i => n - (intOf i).toNat)
 case atStart => exact ⟨0, Nat.zero_le _, rfl, by simp⟩
 case round =>
  obtain ⟨k, hk, rfl, hd⟩ := hrel
  have HD := Lib.hid hd; clear hd
  by_cases hlt : k < n
  · have hkl : k < l.length := by have := HN.out; omega
    obtain ⟨a, ha⟩ : ∃ a, l[k] = a := ⟨_, rfl⟩
    have HS : Hid (orl (l.drop k) = if a ≠ 0 then a else orl (l.drop (k + 1))) := by
     show _ = _
     rw [orl_drop hkl, ha]
    have hc : w.cell? ⟨b, k, none⟩ = some (.int .i64 a) := H.out.c k _ (by rw [List.getElem?_map, List.getElem?_eq_getElem hkl, ha]; rfl)
    clear ha hkl
    by_cases hz : a = 0
    · subst hz
      go_wp2_with (fail)
      go_round
      case rel => exact ⟨k + 1, by omega, by go_num, by rw [HD.out, HS.out]; rfl⟩
      case measure => simp [intOf]; omega
    · have hne : (a != 0) = true := bne_iff_ne.2 hz
      have HZ := Lib.hid hz; clear hz
      go_wp2_with (fail)
      go_ret
      exact ⟨ret_int (by rw [HD.out, HS.out, if_pos HZ.out]), rfl⟩
  · have HS : Hid (orl (l.drop k) = 0) := by
     show _ = _
     rw [List.drop_of_length_le (by have := HN.out; omega)]; rfl
    go_wp2_with (fail)
    go_ret
    exact ⟨ret_int (by rw [HD.out, HS.out]), rfl⟩
set_option maxHeartbeats 1000000 in
theorem spots_any (x y u v : Int) (w : World) : Calls Tryz.prog 127 #[.agg #[.int .i64 x, .int .i64 y], .agg #[.int .i64 u, .int .i64 v]] w (Gives (.int .i64 (cP x y u v)) w) := by
 have H1 := Lib.hid (less_any x y u v)
 have H2 := Lib.hid (less_any u v x y)
 have he : cP x y u v = if decide (x < u ∨ x = u ∧ y < v) = true then -1 else if decide (u < x ∨ u = x ∧ v < y) = true then 1 else 0 := by
  unfold cP; simp only [decide_eq_true_eq]
 rw [he]; clear he
 generalize decide (x < u ∨ x = u ∧ y < v) = p at *
 generalize decide (u < x ∨ u = x ∧ v < y) = q at *
 cases p
 · cases q
   · go_enter Tryz.func127, Tryz.ntmps127
     go_wp2_with (fail)
     refine (H1.out _).mono ?_
     rintro e w1 ⟨rfl, hb⟩
     have HB := Lib.hid (Below.next (box2 w _ _) hb)
     have D1 := ((Blk.made w 43 [.int .i64 x, .int .i64 y] rfl).old (.cells #[.int .i64 u, .int .i64 v] 43)).next hb
     have D2 := (Blk.made (w.alloc (.cells #[.int .i64 x, .int .i64 y] 43)) 43 [.int .i64 u, .int .i64 v] (World.size_alloc _ _)).next hb
     have c0 := D1.c 0 _ rfl
     have c1 := D1.c 1 _ rfl
     have c2 := D2.c 0 _ rfl
     have c3 := D2.c 1 _ rfl
     clear hb D1 D2
     go_wp2_with (fail)
     clear c0 c1 c2 c3
     refine (H2.out _).mono ?_
     rintro e w2 ⟨rfl, hb⟩
     have HB2 := Lib.hid (Below.next HB.out hb)
     clear hb
     go_wp2_with (fail)
     go_ret
     exact ⟨rfl, HB2.out⟩
   · go_enter Tryz.func127, Tryz.ntmps127
     go_wp2_with (fail)
     refine (H1.out _).mono ?_
     rintro e w1 ⟨rfl, hb⟩
     have HB := Lib.hid (Below.next (box2 w _ _) hb)
     have D1 := ((Blk.made w 43 [.int .i64 x, .int .i64 y] rfl).old (.cells #[.int .i64 u, .int .i64 v] 43)).next hb
     have D2 := (Blk.made (w.alloc (.cells #[.int .i64 x, .int .i64 y] 43)) 43 [.int .i64 u, .int .i64 v] (World.size_alloc _ _)).next hb
     have c0 := D1.c 0 _ rfl
     have c1 := D1.c 1 _ rfl
     have c2 := D2.c 0 _ rfl
     have c3 := D2.c 1 _ rfl
     clear hb D1 D2
     go_wp2_with (fail)
     clear c0 c1 c2 c3
     refine (H2.out _).mono ?_
     rintro e w2 ⟨rfl, hb⟩
     have HB2 := Lib.hid (Below.next HB.out hb)
     clear hb
     go_wp2_with (fail)
     go_ret
     exact ⟨rfl, HB2.out⟩
 · go_enter Tryz.func127, Tryz.ntmps127
   go_wp2_with (fail)
   refine (H1.out _).mono ?_
   rintro e w1 ⟨rfl, hb⟩
   have HB := Lib.hid (Below.next (box2 w _ _) hb)
   have D1 := ((Blk.made w 43 [.int .i64 x, .int .i64 y] rfl).old (.cells #[.int .i64 u, .int .i64 v] 43)).next hb
   have D2 := (Blk.made (w.alloc (.cells #[.int .i64 x, .int .i64 y] 43)) 43 [.int .i64 u, .int .i64 v] (World.size_alloc _ _)).next hb
   have c0 := D1.c 0 _ rfl
   have c1 := D1.c 1 _ rfl
   have c2 := D2.c 0 _ rfl
   have c3 := D2.c 1 _ rfl
   clear hb D1 D2
   go_wp2_with (fail)
   go_ret
   exact ⟨rfl, HB.out⟩
set_option maxHeartbeats 4000000 in
theorem order_val (k n x y k' n' x' y' : Int) (s s' : ByteArray) (w : World) : Calls Tryz.prog 87 #[.agg #[.int .i64 k, .int .i64 n, .string s, .int .i64 x, .int .i64 y], .agg #[.int .i64 k', .int .i64 n', .string s', .int .i64 x', .int .i64 y']] w
 (Gives (.int .i64 (ord ⟨k, n, s.data.toList, x, y⟩ ⟨k', n', s'.data.toList, x', y'⟩)) w) := by
 have HI := Lib.hid cmpI_any
 have HS := Lib.hid (cmpS_any s s')
 have HP := Lib.hid (spots_any x y x' y')
 have HE : Hid (ord ⟨k, n, s.data.toList, x, y⟩ ⟨k', n', s'.data.toList, x', y'⟩ = orl [cI k k', cI n n', cS s.data.toList s'.data.toList, cP x y x' y']) := by
  show _ = _
  rw [orl4]; rfl
 generalize cS s.data.toList s'.data.toList = c3 at *
 generalize cP x y x' y' = c4 at *
 go_enter Tryz.func87, Tryz.ntmps87
 go_wp2_with (fail)
 have kb := Lib.hid (box2 w (.cells #[.int .i64 k, .int .i64 n, .string s, .int .i64 x, .int .i64 y] 45) (.cells #[.int .i64 k', .int .i64 n', .string s', .int .i64 x', .int .i64 y'] 45))
 have D := (Blk.made w 45 (vcs k n s x y) rfl).old (.cells #[.int .i64 k', .int .i64 n', .string s', .int .i64 x', .int .i64 y'] 45)
 have E := Blk.made (w.alloc (.cells #[.int .i64 k, .int .i64 n, .string s, .int .i64 x, .int .i64 y] 45)) 45 (vcs k' n' s' x' y') (World.size_alloc _ _)
 change Blk ((w.alloc (.cells #[.int .i64 k, .int .i64 n, .string s, .int .i64 x, .int .i64 y] 45)).alloc (.cells #[.int .i64 k', .int .i64 n', .string s', .int .i64 x', .int .i64 y'] 45)) w.heap.size _ at D
 change Blk ((w.alloc (.cells #[.int .i64 k, .int .i64 n, .string s, .int .i64 x, .int .i64 y] 45)).alloc (.cells #[.int .i64 k', .int .i64 n', .string s', .int .i64 x', .int .i64 y'] 45)) (w.heap.size + 1) _ at E
 generalize (w.alloc (.cells #[.int .i64 k, .int .i64 n, .string s, .int .i64 x, .int .i64 y] 45)).alloc (.cells #[.int .i64 k', .int .i64 n', .string s', .int .i64 x', .int .i64 y'] 45) = v at *
 have d0 := fun r : Over v => (D.over r).v0
 have d1 := fun r : Over v => (D.over r).v1
 have d2 := fun r : Over v => (D.over r).v2
 have d3 := fun r : Over v => (D.over r).v3
 have d4 := fun r : Over v => (D.over r).v4
 have e0 := fun r : Over v => (E.over r).v0
 have e1 := fun r : Over v => (E.over r).v1
 have e2 := fun r : Over v => (E.over r).v2
 have e3 := fun r : Over v => (E.over r).v3
 have e4 := fun r : Over v => (E.over r).v4
 clear D E
 refine wp_over_tail 20 (by kernel_rfl) (by kernel_rfl) ?_
 simp only [List.take_succ_cons, List.take_zero, List.drop_succ_cons, List.drop_zero]
 repeat (go_big_quiet_step (first | fail | with_reducible exact over_id _ (HI.out _ _ _) | with_reducible exact over_id _ (HS.out _) | with_reducible exact over_gives _ (HP.out _)))
 refine wpQuiet_nil ?_
 rintro w2 ⟨⟨w2, hb⟩, rfl⟩
 have HB := Lib.hid (Below.next kb.out hb)
 clear hb kb d0 d1 d2 d3 d4 e0 e1 e2 e3 e4
 go_wp2_with (fail)
 refine (or_any [cI k k', cI n n', c3, c4] w2.heap.size _ (Blk.made w2 3 [.int .i64 (cI k k'), .int .i64 (cI n n'), .int .i64 c3, .int .i64 c4] rfl) (Nat.le_refl _)).mono ?_
 rintro e w' ⟨rfl, rfl⟩
 have HB2 := Lib.hid (Below.next HB.out (box1 w2 (.cells #[.int .i64 (cI k k'), .int .i64 (cI n n'), .int .i64 c3, .int .i64 c4] 3)))
 go_wp2_with (fail)
 go_ret
 exact ⟨ret_int HE.out.symm, HB2.out⟩
end Go.Proofs.YtimllihegnokeaaGreatDoor.Va
namespace Go.Proofs.YtimllihegnokeaaGreatDoor.Ev
open Go.ChangeShapes Go.WideShapes Go.ChangeAt Go.RowKit Ov Va Ga Ex
end Go.Proofs.YtimllihegnokeaaGreatDoor.Ev
namespace Go.Proofs.YtimllihegnokeaaGreatDoor.Ev
open Ov Tp Ga Va Ex
end Go.Proofs.YtimllihegnokeaaGreatDoor.Ev
namespace Go.Proofs.YtimllihegnokeaaGreatDoor.Ev
open Go.ChangeShapes Go.WideShapes Go.ChangeAt Go.RowKit Ov Va Ga
end Go.Proofs.YtimllihegnokeaaGreatDoor.Ev
namespace Go.Proofs.YtimllihegnokeaaGreatDoor.Ex
open Ov Tp Ga Va
def fine (u : List UInt8) : Prop := ∀ c, u.head? = some c → c = 32 ∨ c = 41
theorem fine_nil : fine [] := fun c h => by simp at h
theorem fine_cons {c : UInt8} (u : List UInt8) (h : c = 32 ∨ c = 41) : fine (c :: u) := fun d hd => by
 obtain rfl := Option.some.inj hd; exact h
theorem fine_ends (v : Va) {u : List UInt8} (h : fine u) : ends v u := fun _ => ⟨fun c hc => by rcases h c hc with rfl | rfl <;> decide, fun _ e => by
 rcases h 58 e with h | h <;> exact absurd h (by decide)⟩
theorem fine_le {u : List UInt8} (h : fine u) : ∀ c, u.head? = some c → le c = false := fun c hc => by
 rcases h c hc with rfl | rfl <;> decide
theorem runs_same {s s' : St} (h : step s = step s') : runs s = runs s' := by
 cases e : step s with
 | inr r => rw [runs_end e, runs_end (h.symm.trans e)]
 | inl x => rw [runs_go e, runs_go (h.symm.trans e)]
theorem runs_blank (a : List No) (st : List Nat) (t : List UInt8) (i : Nat) : runs ⟨a, st, 32 :: t, i⟩ = runs ⟨a, st, t, i + 1⟩ := by
 apply runs_same
 unfold step
 dsimp only
 rw [bl_blank, List.drop_succ_cons, show i + (bl t + 1) = i + 1 + bl t by omega]
theorem fl_app {w u : List UInt8} (hw : w.all le = true) (hu : ∀ c, u.head? = some c → le c = false) : fl (w ++ u) = w := by
 unfold fl
 rw [List.takeWhile_append_of_pos (by simpa using hw)]
 cases u with
 | nil => simp
 | cons c t => rw [List.takeWhile_cons, hu c rfl]; simp
theorem pz_none {c : UInt8} (t : List UInt8) (h1 : c ≠ 34) (h2 : c ≠ 45) (h3 : dg c = false) : pz (c :: t) = (vz, 0, 10) := by
 unfold pz
 rw [List.head?_cons, if_neg (fun e => h1 (Option.some.inj e)), if_neg]
 rintro (e | ⟨d, e, hd⟩)
 · exact h2 (Option.some.inj e)
 · obtain rfl := Option.some.inj e
   rw [h3] at hd; cases hd
theorem pz_head {l : List UInt8} (h : (pz l).2.2 = 0) : ∃ c t, l = c :: t ∧ c ≠ 32 ∧ c ≠ 41 ∧ c ≠ 40 := by
 cases l with
 | nil =>
   rw [show pz [] = (vz, 0, 10) by unfold pz; simp] at h
   cases h
 | cons c t =>
   refine ⟨c, t, rfl, ?_⟩
   by_cases hc : c = 32 ∨ c = 41 ∨ c = 40
   · have : pz (c :: t) = (vz, 0, 10) := by rcases hc with rfl | rfl | rfl <;> exact pz_none t (by decide) (by decide) (by decide)
     rw [this] at h; cases h
   · exact ⟨fun e => hc (.inl e), fun e => hc (.inr (.inl e)), fun e => hc (.inr (.inr e))⟩
theorem cp_head {c : UInt8} {t : List UInt8} {b w : Nat} (hb : b ≠ 400) (hw : w ≤ 24) (h1 : c ≠ 41) (h2 : c ≠ 40) : cp (c :: t) b w = cv (c :: t) := by
 unfold cp
 rw [if_neg (by simp), if_neg hb, if_neg (by omega), List.head?_cons, if_neg (fun h => h1 (Option.some.inj h.2)), if_neg (fun h => h2 (Option.some.inj h))]
theorem cp_value {v : Va} (hv : rt v = true) {u : List UInt8} (hu : fine u) {b w : Nat} (hb : b ≠ 400) (hw : w ≤ 24) : bl (wr v ++ u) = 0 ∧ cp (wr v ++ u) b w = (⟨0, v⟩, (wr v).length, 0) := by
 have hp := pz_wr hv (fine_ends v hu)
 obtain ⟨c, t, e, h1, h2, h3⟩ := pz_head (l := wr v ++ u) (by rw [hp])
 have hcv : cv (wr v ++ u) = (⟨0, v⟩, (wr v).length, 0) := by
  unfold cv
  rw [hp]
  rfl
 rw [← hcv, e]
 exact ⟨bl_other t h1, cp_head hb hw h2 h3⟩
theorem cp_name {n : Int} (hn : 0 ≤ n ∧ n < 5) {u : List UInt8} (hu : fine u) {b w : Nat} (hb : b ≠ 400) (hw : w ≤ 24) : bl (nm n ++ u) = 0 ∧ cp (nm n ++ u) b w = (⟨1, nv n⟩, (nm n).length, 0) := by
 obtain ⟨i, rfl⟩ : ∃ i : Nat, n = (i : Int) := ⟨n.toNat, by omega⟩
 have hi : i < 5 := by omega
 have h1 := (nm_in hn).1
 obtain ⟨hf, hl⟩ := nf_all ⟨i, hi⟩
 change nf nml[i]! = some i at hf
 change nml[i]!.all le = true at hl
 rw [← nm_at hi] at hf hl
 have hcn : cn (nm (i : Int) ++ u) = (⟨1, nv (i : Int)⟩, (nm (i : Int)).length, 0) := by
  unfold cn
  rw [fl_app hl (fine_le hu), hf]
 obtain ⟨c, t, e⟩ : ∃ c t, nm (i : Int) = c :: t := List.exists_cons_of_ne_nil (by intro e; rw [e] at h1; simp at h1)
 have hc : le c = true := by rw [e] at hl; simp at hl; exact hl.1
 have hc' := of_decide_eq_true hc
 have h32 : c ≠ 32 := by rintro rfl; revert hc; decide
 have h41 : c ≠ 41 := by rintro rfl; revert hc; decide
 have h40 : c ≠ 40 := by rintro rfl; revert hc; decide
 have hp : pz (nm (i : Int) ++ u) = (vz, 0, 10) := by
  rw [e]
  refine pz_none _ ?_ ?_ (decide_eq_false (by omega))
  · rintro rfl; revert hc; decide
  · rintro rfl; revert hc; decide
 have hcv : cv (nm (i : Int) ++ u) = (⟨1, nv (i : Int)⟩, (nm (i : Int)).length, 0) := by
  unfold cv
  rw [hp, ← hcn]
  rfl
 rw [← hcv, e]
 exact ⟨bl_other _ h32, cp_head hb hw h41 h40⟩
theorem cp_kind {o : Int} (ho : 2 ≤ o ∧ o ≤ 29) {u : List UInt8} (hu : fine u) {b w : Nat} (hb : b ≠ 400) (hw : w ≤ 24) : bl (40 :: (wd o ++ u)) = 0 ∧ cp (40 :: (wd o ++ u)) b w = (⟨o, vz⟩, 1 + (wd o).length, 0) := by
 obtain ⟨i, rfl⟩ : ∃ i : Nat, o = (i : Int) := ⟨o.toNat, by omega⟩
 have hi : i < 30 := by omega
 obtain ⟨hf, hl⟩ := kf_all ⟨i, hi⟩ (by show 2 ≤ i; omega)
 change kf wdl[i]! = some i at hf
 change wdl[i]!.all le = true at hl
 rw [← wd_at hi] at hf hl
 refine ⟨bl_other _ (by decide), ?_⟩
 unfold cp
 rw [if_neg (by simp), if_neg hb, if_neg (by omega), List.head?_cons, if_neg (fun h => absurd (Option.some.inj h.2) (by decide)), if_pos rfl]
 unfold ck
 rw [List.tail_cons, fl_app hl (fine_le hu), hf]
theorem step_node {a : List No} {m : Nat} {more : List Nat} {t u : List UInt8} {i z : Nat} {n : No} (hb : bl t = 0) (hc : cp t a.length more.length = (n, z, 0)) (hz : t.drop z = u) :
 step ⟨a, (m + 1) :: more, t, i⟩ = .inl ⟨a ++ [n], push n m more, u, i + z⟩ := by
 unfold step
 dsimp only
 rw [hb, List.drop_zero, hc, if_pos (by omega), if_neg (fun h => h rfl)]
 dsimp only
 rw [hz]
 rfl
theorem step_shut (a : List No) (m : Nat) (more : List Nat) (u : List UInt8) (i : Nat) : step ⟨a, 0 :: m :: more, 41 :: u, i⟩ = .inl ⟨a, m :: more, u, i + 1⟩ := by
 unfold step
 dsimp only
 rw [bl_other u (show (41 : UInt8) ≠ 32 by decide), List.drop_zero, if_neg (by omega), if_pos (by simp), if_neg (fun h => h rfl)]
 rfl
theorem go_it {d : Nat} (ih : ∀ c r, ex d (c ++ r) = some r → ∀ a m more u i, fine u → more.length + d ≤ 25 → a.length + c.length ≤ 400 → runs ⟨a, (m + 1) :: more, wt d (c ++ r) ++ u, i⟩ = runs ⟨a ++ c, m :: more, u, i + (wt d (c ++ r)).length⟩) :
 ∀ k c r, it (ex d) k (c ++ r) = some r → ∀ a m more u i, fine u → more.length + d ≤ 25 → a.length + c.length ≤ 400 →
  runs ⟨a, (m + k) :: more, ts (wt d) (ex d) k (c ++ r) ++ u, i⟩ = runs ⟨a ++ c, m :: more, u, i + (ts (wt d) (ex d) k (c ++ r)).length⟩
 | 0, c, r, h, a, m, more, u, i, _, _, _ => by
   rw [it_zero] at h
   have hc : c = [] := by
    have := Option.some.inj h
    exact List.append_left_eq_self.1 this
   subst hc
   rw [List.append_nil]; rfl
 | k + 1, c, r, h, a, m, more, u, i, hu, hm, ha => by
   rw [it_succ] at h
   obtain ⟨r1, h1, h2⟩ := Option.bind_eq_some_iff.1 h
   obtain ⟨c1, e1, _, _⟩ := ex_takes d _ _ h1
   obtain ⟨c2, rfl, _, _⟩ := it_takes (ex_takes d) k _ _ h2
   rw [← List.append_assoc] at e1
   obtain rfl := List.append_cancel_right e1
   rw [List.length_append] at ha
   rw [ts_succ h1, List.append_assoc] at *
   rw [List.cons_append, runs_blank, List.append_assoc]
   have hf : fine (ts (wt d) (ex d) k (c2 ++ r) ++ u) := by
    cases k with
    | zero => exact hu
    | succ k => exact fine_cons _ (.inl rfl)
   rw [show m + (k + 1) = m + k + 1 by omega, ih c1 (c2 ++ r) h1 a (m + k) more _ (i + 1) hf hm (by omega)]
   rw [go_it ih k c2 r h2 (a ++ c1) m more u _ hu hm (by rw [List.length_append]; omega), List.append_assoc, List.length_cons, List.length_append]
   congr 2
   omega
theorem go_ex : ∀ d c r, ex d (c ++ r) = some r → ∀ a m more u i, fine u → more.length + d ≤ 25 → a.length + c.length ≤ 400 →
 runs ⟨a, (m + 1) :: more, wt d (c ++ r) ++ u, i⟩ = runs ⟨a ++ c, m :: more, u, i + (wt d (c ++ r)).length⟩
 | 0, _, _, h, _, _, _, _, _, _, _, _ => by cases h
 | d + 1, c, r, h, a, m, more, u, i, hu, hm, ha => by
   have hne : c ≠ [] := by
    obtain ⟨c', e, hn, _⟩ := ex_takes _ _ _ h
    obtain rfl := List.append_cancel_right e
    exact hn
   cases c with
   | nil => exact absurd rfl hne
   | cons n c =>
     rw [List.cons_append, ex_cons] at h
     split at h
     · rename_i hn
       rw [List.length_cons] at ha
       rw [List.cons_append, wt_cons]
       rcases rn_cases hn with ⟨h0, hv⟩ | ⟨h0, hv, hr⟩ | ⟨h0, hv⟩
       · have hp : pa n.o = 0 := rn_leaf (.inl h0)
         rw [hp, it_zero] at h
         obtain rfl : c = [] := List.append_left_eq_self.1 (Option.some.inj h)
         rw [if_pos h0]
         obtain ⟨hb, hc⟩ := cp_value hv hu (b := a.length) (w := more.length) (by omega) (by omega)
         have hnn : (⟨0, n.v⟩ : No) = n := by rw [← h0]
         rw [hnn] at hc
         rw [runs_go (step_node hb hc List.drop_left)]
         unfold push
         rw [hp, if_neg (by omega)]
       · have hp : pa n.o = 0 := rn_leaf (.inr h0)
         rw [hp, it_zero] at h
         obtain rfl : c = [] := List.append_left_eq_self.1 (Option.some.inj h)
         rw [if_neg (by omega), if_pos h0]
         obtain ⟨hb, hc⟩ := cp_name hr hu (b := a.length) (w := more.length) (by omega) (by omega)
         have hnn : (⟨1, nv n.v.n⟩ : No) = n := by rw [← h0, ← hv]
         rw [hnn] at hc
         rw [runs_go (step_node hb hc List.drop_left)]
         unfold push
         rw [hp, if_neg (by omega)]
       · have hk := kind_in h0
         rw [if_neg (by omega), if_neg (by omega)]
         have hf : fine (ts (wt d) (ex d) (pa n.o) (c ++ r) ++ (41 :: u)) := by
          obtain ⟨k, hk'⟩ : ∃ k, pa n.o = k + 1 := ⟨pa n.o - 1, by omega⟩
          rw [hk']; exact fine_cons _ (.inl rfl)
         obtain ⟨hb, hc⟩ := cp_kind h0 hf (b := a.length) (w := more.length) (by omega) (by omega)
         have hnn : (⟨n.o, vz⟩ : No) = n := by rw [← hv]
         rw [hnn] at hc
         have e : 40 :: (wd n.o ++ (ts (wt d) (ex d) (pa n.o) (c ++ r) ++ [41])) ++ u = 40 :: (wd n.o ++ (ts (wt d) (ex d) (pa n.o) (c ++ r) ++ (41 :: u))) := by simp
         have hd : (40 :: (wd n.o ++ (ts (wt d) (ex d) (pa n.o) (c ++ r) ++ (41 :: u)))).drop (1 + (wd n.o).length) = ts (wt d) (ex d) (pa n.o) (c ++ r) ++ (41 :: u) := by
          rw [Nat.add_comm, List.drop_succ_cons, List.drop_left]
         rw [e, runs_go (step_node hb hc hd)]
         unfold push
         rw [if_pos (by omega)]
         have h1 := go_it (go_ex d) (pa n.o) c r h (a ++ [n]) 0 (m :: more) (41 :: u) (i + (1 + (wd n.o).length)) (fine_cons _ (.inr rfl)) (by rw [List.length_cons]; omega) (by rw [List.length_append, List.length_singleton]; omega)
         rw [Nat.zero_add] at h1
         rw [h1, runs_go (step_shut _ _ _ _ _), List.append_assoc, List.length_cons, List.length_append, List.length_append]
         congr 2
         simp; omega
     · cases h
theorem ps_wt {l : List No} (h : Rt l = true) (hs : (wt 25 l).length ≤ 4096) : ps (wt 25 l) = (l, 0, 0) := by
 obtain ⟨h1, h2⟩ := Rt_in h
 have h3 := go_ex 25 l [] (by rw [List.append_nil]; exact h2) [] 0 [] [] 0 fine_nil (Nat.le_refl _) (by simpa using h1)
 rw [List.append_nil, List.append_nil, List.nil_append] at h3
 unfold ps
 rw [if_neg (by omega), h3]
 refine runs_end ?_
 unfold step
 dsimp only
 rw [if_neg (by omega), if_neg (by simp), if_neg (by simp)]
end Go.Proofs.YtimllihegnokeaaGreatDoor.Ex
namespace Go.Proofs.YtimllihegnokeaaGreatDoor.Ga
open Go.ChangeShapes Go.WideShapes Go.ChangeAt Go.RowKit Ov
theorem common_bad (x y u v : Int) (h : (rb ⟨x, y⟩ && rb ⟨u, v⟩) = false) (w : World) : Calls Tryz.prog 91 #[.agg #[.int .i64 x, .int .i64 y], .agg #[.int .i64 u, .int .i64 v]] w (Gives (.tuple #[.agg #[.int .i64 0, .int .i64 0], .int .i64 14]) w) := by
 have HR := Lib.hid (both_any x y u v); rw [h] at HR; clear h
 go_enter Tryz.func91, Tryz.ntmps91
 go_wp2_with (fail)
 refine wp_scope_once 0 (fun _ _ => False) (fun _ _ => 0) rfl (fun NX => ?_) (fun _ _ h => h.elim)
 clear NX
 go_wp2_with (fail)
 refine (HR.out _).mono ?_
 rintro e w1 ⟨rfl, hb⟩
 obtain ⟨h2, d2, d3, d4⟩ := boxes3 43 (.int .i64 x) (.int .i64 y) (.int .i64 u) (.int .i64 v) (.int .i64 0) (.int .i64 0) w
 have HB := Lib.hid (Below.next h2 hb)
 have hz := (d4.next hb).lt
 obtain ⟨e0, e1, g0, g1⟩ := d4.next hb
 clear hb h2 d2 d3 d4
 go_wp2_with (fail)
 simp only [Exit.jump]
 refine bodyPost_ret (v := .tuple #[.agg #[.int .i64 0, .int .i64 0], .int .i64 14]) (by simp [results, Tryz.results91, go_sem, e0, e1]) rfl ⟨rfl, ?_⟩
 exact below_put2 HB.out (c := w.heap.size + 1 + 1) (by omega) _ _
def JG (x y u v : Int) (w : World) (a' : Act) (w' : World) : Prop := ∃ (p q r s : Int) (u6 u7 u8 u9 u10 u11 u12 u13 u14 u15 u16 u17 u18 u19 u20 u21 u22 u23 u24 u25 : Value),
 rb ⟨p, q⟩ = true ∧ rb ⟨r, s⟩ = true ∧ Pt.cg ⟨p, q⟩ ⟨r, s⟩ = Pt.cg ⟨x, y⟩ ⟨u, v⟩ ∧ Duo w' w.heap.size (.int .i64 p) (.int .i64 q) ∧ Duo w' (w.heap.size + 1) (.int .i64 r) (.int .i64 s) ∧ Duo w' (w.heap.size + 1 + 1) (.int .i64 0) (.int .i64 0) ∧ Below w.heap.size w w' ∧
 a' = { tmps := #[.agg #[.int .i64 x, .int .i64 y], .agg #[.int .i64 u, .int .i64 v], .pointer (some ⟨w.heap.size, 0, none⟩), .pointer (some ⟨w.heap.size + 1, 0, none⟩), .pointer (some ⟨w.heap.size + 1 + 1, 0, none⟩), .int .i64 0, u6, u7, u8, u9, u10, u11, u12, u13, u14, u15, u16, u17, u18, u19, u20, u21, u22, u23, u24, u25], defers := [] }
def muG (w : World) (_ : Act) (w' : World) : Nat := (Pt.norm ⟨cellInt w' (w.heap.size + 1) 0, cellInt w' (w.heap.size + 1) 1⟩).toNat
set_option maxRecDepth 100000 in
set_option maxHeartbeats 2000000 in
theorem common_yes {x y u v : Int} (ha : rb ⟨x, y⟩ = true) (hb : rb ⟨u, v⟩ = true) (w : World) : Calls Tryz.prog 91 #[.agg #[.int .i64 x, .int .i64 y], .agg #[.int .i64 u, .int .i64 v]] w
 (Gives (.tuple #[.agg #[.int .i64 (Pt.cg ⟨x, y⟩ ⟨u, v⟩).x, .int .i64 (Pt.cg ⟨x, y⟩ ⟨u, v⟩).y], .int .i64 0]) w) := by
 have HR := Lib.hid (both_any x y u v); rw [ha, hb] at HR
 have HA := Lib.hid ha; have HH := Lib.hid hb; clear ha hb
 go_enter Tryz.func91, Tryz.ntmps91
 go_wp2_with (fail)
 refine wp_scope_once 0 (JG x y u v w) (muG w) rfl (fun NX => ?_) ?_
 · go_wp2_with (fail)
   refine (HR.out _).mono ?_
   rintro e w1 ⟨rfl, hb⟩
   obtain ⟨h2, d2, d3, d4⟩ := boxes3 43 (.int .i64 x) (.int .i64 y) (.int .i64 u) (.int .i64 v) (.int .i64 0) (.int .i64 0) w
   have HB := Lib.hid (Below.next h2 hb)
   have D2 := Lib.hid (d2.next hb); have D3 := Lib.hid (d3.next hb); have D4 := Lib.hid (d4.next hb)
   clear hb h2 d2 d3 d4
   go_wp2_with (fail)
   go_step3
   rename_i hK
   exact hK _ _ (NX.out _ _ ⟨x, y, u, v, _, _, _, _, _, _, _, _, _, _, _, _, _, _, _, _, _, _, _, _, HA.out, HH.out, rfl, D2.out, D3.out, D4.out, HB.out, rfl⟩)
 · rintro a' w' ⟨p, q, r, s, u6, u7, u8, u9, u10, u11, u12, u13, u14, u15, u16, u17, u18, u19, u20, u21, u22, u23, u24, u25, ha, hb, hg, d2, d3, d4, hbl, rfl⟩
   have HP := Lib.hid ha; have HQ := Lib.hid hb; have HG := Lib.hid hg; have D2 := Lib.hid d2; have D3 := Lib.hid d3; have D4 := Lib.hid d4; have HB := Lib.hid hbl
   obtain ⟨a0, a1, f2, f3⟩ := d2
   obtain ⟨b0, b1, f4, f5⟩ := d3
   have HM : Hid (muG w { tmps := #[.agg #[.int .i64 x, .int .i64 y], .agg #[.int .i64 u, .int .i64 v], .pointer (some ⟨w.heap.size, 0, none⟩), .pointer (some ⟨w.heap.size + 1, 0, none⟩), .pointer (some ⟨w.heap.size + 1 + 1, 0, none⟩), .int .i64 0, u6, u7, u8, u9, u10, u11, u12, u13, u14, u15, u16, u17, u18, u19, u20, u21, u22, u23, u24, u25], defers := [] } w' = (Pt.norm ⟨r, s⟩).toNat) := by
    show muG _ _ _ = _
    unfold muG; rw [cellInt_of b0, cellInt_of b1]
   clear ha hb hg d4 hbl
   by_cases h0 : (⟨r, s⟩ : Pt) = Pt.zero
   · have HC : Hid (Pt.cg ⟨x, y⟩ ⟨u, v⟩ = Pt.fs ⟨p, q⟩) := by
      show _ = _
      rw [← HG.out, h0, Pt.cg_zero]
     have hr : (r == 0) = true := by injection h0 with h1 h2; exact beq_iff_eq.2 h1
     have hs : (s == 0) = true := by injection h0 with h1 h2; exact beq_iff_eq.2 h2
     clear h0
     rw [HC.out]
     have HF := Lib.hid (first_any HP.out)
     generalize (Pt.fs ⟨p, q⟩).x = fx at *
     generalize (Pt.fs ⟨p, q⟩).y = fy at *
     go_wp2_with (fail)
     refine (HF.out _).mono ?_
     rintro e w2 ⟨rfl, hb⟩
     have HB2 := Lib.hid (HB.out.trans (hb.mono HB.out.size))
     have hz := (D4.out.next hb).lt
     obtain ⟨e0, e1, g0, g1⟩ := D4.out.next hb
     clear hb a0 a1 b0 b1
     go_wp2_with (fail)
     simp only [Exit.jump]
     refine bodyPost_ret (v := .tuple #[.agg #[.int .i64 fx, .int .i64 fy], .int .i64 0]) (by simp [results, Tryz.results91, go_sem, e0, e1]) rfl ⟨rfl, ?_⟩
     exact below_put2 HB2.out (c := w.heap.size + 1 + 1) (by omega) _ _
   · have HC : Hid (Pt.cg ⟨r, s⟩ (Pt.rest ⟨p, q⟩ ⟨r, s⟩) = Pt.cg ⟨x, y⟩ ⟨u, v⟩) := by
      show _ = _
      rw [← HG.out, Pt.cg_rest _ h0]
     have HL := Lib.hid (Pt.rest_lt ⟨p, q⟩ h0)
     have HN := Lib.hid (Pt.rest_right (a := ⟨p, q⟩) HQ.out h0)
     have HD := Lib.hid (divide_any HP.out HQ.out h0)
     have hne := not_zero h0
     clear h0
     obtain ⟨t, ht⟩ : ∃ t, Pt.rest ⟨p, q⟩ ⟨r, s⟩ = t := ⟨_, rfl⟩
     rw [ht] at HC HL HN HD
     obtain ⟨tx, ty⟩ := t
     have HD2 : Hid (∀ w, Calls Tryz.prog 130 #[.agg #[.int .i64 p, .int .i64 q], .agg #[.int .i64 r, .int .i64 s]] w
      (Gives (.tuple #[.agg #[.int .i64 (Pt.quo ⟨p, q⟩ ⟨r, s⟩).x, .int .i64 (Pt.quo ⟨p, q⟩ ⟨r, s⟩).y], .agg #[.int .i64 tx, .int .i64 ty]]) w)) := HD
     clear HD ht
     generalize (Pt.quo ⟨p, q⟩ ⟨r, s⟩).x = qx at *
     generalize (Pt.quo ⟨p, q⟩ ⟨r, s⟩).y = qy at *
     rcases hne with hr | ⟨hr, hs⟩
     all_goals
      go_wp2_with (fail)
      refine (HD2.out _).mono ?_
      rintro e w2 ⟨rfl, hb⟩
      obtain ⟨k2, o6, o7⟩ := boxes2 43 (.int .i64 qx) (.int .i64 qy) (.int .i64 tx) (.int .i64 ty) w2
      have HB2 := Lib.hid ((HB.out.trans (hb.mono HB.out.size)).trans (k2.mono (HB.out.trans (hb.mono HB.out.size)).size))
      have F2 := Lib.hid ((D2.out.next hb).next k2)
      have F3 := Lib.hid ((D3.out.next hb).next k2)
      have F4 := Lib.hid ((D4.out.next hb).next k2)
      have O7 := Lib.hid o7
      have hg : w.heap.size + 1 + 1 < w2.heap.size := (D4.out.next hb).lt
      clear hb a0 a1 b0 b1 f2 f3 f4 f5 k2 o6 o7
      go_wp2_with (fail)
      generalize (w2.alloc (.cells #[.int .i64 qx, .int .i64 qy] 43)).alloc (.cells #[.int .i64 tx, .int .i64 ty] 43) = w3 at *
      have n1 : ¬ w.heap.size = w2.heap.size + 1 := by omega
      have n2 : ¬ w.heap.size + 1 = w2.heap.size + 1 := by omega
      have n3 : ¬ w2.heap.size + 1 = w.heap.size := by omega
      have n4 : ¬ w2.heap.size + 1 = w.heap.size + 1 := by omega
      clear hg
      generalize w2.heap.size + 1 = g at *
      obtain ⟨a0, a1, _, _⟩ := O7.out
      obtain ⟨b0, b1, g0, g1⟩ := F2.out
      obtain ⟨c0, c1, i0, i1⟩ := F3.out
      have hz := F4.out.lt
      have HX := Lib.hid (((F2.out.set (.int .i64 r) (.int .i64 s)).put2 (c := w.heap.size + 1) (by omega) (.int .i64 tx) (.int .i64 ty)).drew)
      have HY := Lib.hid (((F3.out.put2 (c := w.heap.size) (by omega) (.int .i64 r) (.int .i64 s)).set (.int .i64 tx) (.int .i64 ty)).drew)
      have HZ := Lib.hid (((F4.out.put2 (c := w.heap.size) (by omega) (.int .i64 r) (.int .i64 s)).put2 (c := w.heap.size + 1) (by omega) (.int .i64 tx) (.int .i64 ty)).drew)
      have HW := Lib.hid (below_put2 (below_put2 HB2.out (c := w.heap.size) (by omega) (.int .i64 r) (.int .i64 s)) (c := w.heap.size + 1) (by omega) (.int .i64 tx) (.int .i64 ty)).drew
      go_region
      go_wp2_with (fail)
      go_step3
      refine ⟨rfl, ⟨r, s, tx, ty, _, _, _, _, _, _, _, _, _, _, _, _, _, _, _, _, _, _, _, _, HQ.out, HN.out, HC.out, HX.out, HY.out, HZ.out, HW.out, rfl⟩, ?_⟩
      refine Nat.lt_of_lt_of_eq ?_ HM.out.symm
      unfold muG
      rw [cellInt_of HY.out.c0, cellInt_of HY.out.c1]
      exact HL.out
end Go.Proofs.YtimllihegnokeaaGreatDoor.Ga
namespace Go.Proofs.YtimllihegnokeaaGreatDoor.Jo
open Go.ChangeShapes Go.WideShapes Go.ChangeAt Go.RowKit Ov Ga Va
theorem five {w : World} {b : Nat} {x0 x1 x2 x3 x4 : Value} (h : Blk w b [x0, x1, x2, x3, x4]) : w.cell? ⟨b, 0, none⟩ = some x0 ∧ w.cell? ⟨b, 1, none⟩ = some x1 ∧ w.cell? ⟨b, 2, none⟩ = some x2 ∧ w.cell? ⟨b, 3, none⟩ = some x3 ∧ w.cell? ⟨b, 4, none⟩ = some x4 := ⟨h.c 0 _ rfl, h.c 1 _ rfl, h.c 2 _ rfl, h.c 3 _ rfl, h.c 4 _ rfl⟩
theorem thaw {w : World} {b : Nat} {x0 x1 x2 x3 x4 : Value} (h : Blk w b [x0, x1, x2, x3, x4]) : w.frozen? ⟨b, 0, none⟩ = false ∧ w.frozen? ⟨b, 1, none⟩ = false ∧ w.frozen? ⟨b, 2, none⟩ = false ∧ w.frozen? ⟨b, 3, none⟩ = false ∧ w.frozen? ⟨b, 4, none⟩ = false := ⟨h.f 0 _ rfl, h.f 1 _ rfl, h.f 2 _ rfl, h.f 3 _ rfl, h.f 4 _ rfl⟩
theorem fin5 {P : World → Prop} {lo : Nat} {W w : World} {b : Nat} {x0 x1 x2 x3 x4 : Value} (h : Blk w b [x0, x1, x2, x3, x4]) (hb : Below lo W w) (hlo : lo ≤ b) (a0 a1 a2 a3 a4 : Value)
 (k : ∀ w', Blk w' b [a0, a1, a2, a3, a4] → Below lo W w' → (∀ c ys, c ≠ b → Blk w c ys → Blk w' c ys) → P w') : P (((((w.setCell ⟨b, 0, none⟩ a0).setCell ⟨b, 1, none⟩ a1).setCell ⟨b, 2, none⟩ a2).setCell ⟨b, 3, none⟩ a3).setCell ⟨b, 4, none⟩ a4) :=
 k _ (((((h.set 0 a0).set 1 a1).set 2 a2).set 3 a3).set 4 a4) (((((hb.setCell hlo _).setCell hlo _).setCell hlo _).setCell hlo _).setCell hlo _) fun _ _ hc g => ((((g.put (Ne.symm hc) 0 a0).put (Ne.symm hc) 1 a1).put (Ne.symm hc) 2 a2).put (Ne.symm hc) 3 a3).put (Ne.symm hc) 4 a4
theorem fin2 {P : World → Prop} {lo : Nat} {W w : World} {b : Nat} {x0 x1 : Value} (h : Duo w b x0 x1) (hb : Below lo W w) (hlo : lo ≤ b) (a0 a1 : Value)
 (k : ∀ w', Duo w' b a0 a1 → Below lo W w' → P w') : P ((w.setCell ⟨b, 0, none⟩ a0).setCell ⟨b, 1, none⟩ a1) := k _ (h.set a0 a1) ((hb.setCell hlo _).setCell hlo _)
theorem two_boxes (w : World) (t : TypeId) (xs ys zs : List Value) : Blk (((w.alloc (.cells xs.toArray t)).alloc (.cells ys.toArray t)).alloc (.cells zs.toArray t)) w.heap.size xs ∧
 Blk (((w.alloc (.cells xs.toArray t)).alloc (.cells ys.toArray t)).alloc (.cells zs.toArray t)) (w.heap.size + 1) ys ∧ Blk (((w.alloc (.cells xs.toArray t)).alloc (.cells ys.toArray t)).alloc (.cells zs.toArray t)) (w.heap.size + 1 + 1) zs ∧
 Below w.heap.size w (((w.alloc (.cells xs.toArray t)).alloc (.cells ys.toArray t)).alloc (.cells zs.toArray t)) :=
 ⟨((Blk.made w t xs rfl).old _).old _, (Blk.made _ t ys (World.size_alloc _ _)).old _, Blk.made _ t zs (by simp [World.size_alloc]), box3 _ _ _ _⟩
set_option maxHeartbeats 1000000 in
theorem choose_b (c : ByteArray) (k n x y k' n' x' y' : Int) (s s' : ByteArray) (hs : s'.size ≤ 281474976710656) (w : World) (h : (decide (ord ⟨k, n, s.data.toList, x, y⟩ ⟨k', n', s'.data.toList, x', y'⟩ < 0) == (c.toList == [109, 97, 120])) = true) :
 Calls Tryz.prog 51 #[.string c, .agg #[.int .i64 k, .int .i64 n, .string s, .int .i64 x, .int .i64 y], .agg #[.int .i64 k', .int .i64 n', .string s', .int .i64 x', .int .i64 y']] w (Gives (.agg #[.int .i64 k', .int .i64 n', .string s', .int .i64 x', .int .i64 y']) w) := by
 have HO := Lib.hid (order_val k n x y k' n' x' y' s s')
 have HC := Lib.hid (fun w1 => clone_any s' w1 hs)
 generalize ord ⟨k, n, s.data.toList, x, y⟩ ⟨k', n', s'.data.toList, x', y'⟩ = o at *
 obtain ⟨D1, D2, D3, hb0⟩ := two_boxes w 45 [.int .i64 k, .int .i64 n, .string s, .int .i64 x, .int .i64 y] [.int .i64 k', .int .i64 n', .string s', .int .i64 x', .int .i64 y'] [.int .i64 0, .int .i64 0, .string ⟨#[]⟩, .int .i64 0, .int .i64 0]
 have H1 := Lib.hid D1; have H2 := Lib.hid D2; have H3 := Lib.hid D3; have HB := Lib.hid hb0; clear D1 D2 D3 hb0
 go_enter Tryz.func51, Tryz.ntmps51
 go_wp2_with (fail)
 refine (HO.out _).mono ?_
 rintro e w1 ⟨rfl, hb⟩
 replace H1 := Lib.hid (H1.out.next hb); replace H2 := Lib.hid (H2.out.next hb); replace H3 := Lib.hid (H3.out.next hb); replace HB := Lib.hid (Below.next HB.out hb); clear hb
 obtain ⟨c0, c1, c2, c3, c4⟩ := five H2.out
 obtain ⟨f0, f1, f2, f3, f4⟩ := thaw H1.out
 obtain ⟨e0, e1, e2, e3, e4⟩ := five H1.out
 go_wp2_with (fail)
 clear c0 c1 c2 c3 c4 f0 f1 f2 f3 f4 e0 e1 e2 e3 e4
 refine fin5 (P := fun W => Calls Tryz.prog _ _ W _) H1.out HB.out (Nat.le_refl _) _ _ _ _ _ fun w2 hx hy ho => ?_
 replace H3 := Lib.hid (ho _ _ (by omega) H3.out); replace H1 := Lib.hid hx; replace HB := Lib.hid hy; clear hx hy ho H2
 refine (HC.out _).mono ?_
 rintro e w3 ⟨rfl, hb⟩
 replace H1 := Lib.hid (H1.out.next hb); replace H3 := Lib.hid (H3.out.next hb); replace HB := Lib.hid (Below.next HB.out hb); clear hb
 obtain ⟨c0, c1, c2, c3, c4⟩ := five H1.out
 obtain ⟨f0, f1, f2, f3, f4⟩ := thaw H3.out
 obtain ⟨e0, e1, e2, e3, e4⟩ := five H3.out
 have g2 := H1.out.f 2 _ rfl
 go_wp2_with (fail)
 have h3 := H3.out.put (show w.heap.size ≠ w.heap.size + 1 + 1 by omega) 2 (.string s')
 have hb3 := HB.out.setCell (p := ⟨w.heap.size, 2, none⟩) (Nat.le_refl _) (.string s')
 clear c0 c1 c2 c3 c4 f0 f1 f2 f3 f4 e0 e1 e2 e3 e4 g2
 refine fin5 (P := bodyPost _ _ _ _ _) h3 hb3 (by omega) _ _ _ _ _ fun w4 hx hy _ => ?_
 obtain ⟨c0, c1, c2, c3, c4⟩ := five hx
 exact bodyPost_ret (v := .agg #[.int .i64 k', .int .i64 n', .string s', .int .i64 x', .int .i64 y']) (by simp [results, Tryz.results51, go_sem, c0, c1, c2, c3, c4]) rfl ⟨rfl, hy⟩
set_option maxHeartbeats 1000000 in
theorem choose_a (c : ByteArray) (k n x y k' n' x' y' : Int) (s s' : ByteArray) (hs : s.size ≤ 281474976710656) (w : World) (h : (decide (ord ⟨k, n, s.data.toList, x, y⟩ ⟨k', n', s'.data.toList, x', y'⟩ < 0) == (c.toList == [109, 97, 120])) = false) :
 Calls Tryz.prog 51 #[.string c, .agg #[.int .i64 k, .int .i64 n, .string s, .int .i64 x, .int .i64 y], .agg #[.int .i64 k', .int .i64 n', .string s', .int .i64 x', .int .i64 y']] w (Gives (.agg #[.int .i64 k, .int .i64 n, .string s, .int .i64 x, .int .i64 y]) w) := by
 have HO := Lib.hid (order_val k n x y k' n' x' y' s s')
 have HC := Lib.hid (fun w1 => clone_any s w1 hs)
 generalize ord ⟨k, n, s.data.toList, x, y⟩ ⟨k', n', s'.data.toList, x', y'⟩ = o at *
 obtain ⟨D1, D2, D3, hb0⟩ := two_boxes w 45 [.int .i64 k, .int .i64 n, .string s, .int .i64 x, .int .i64 y] [.int .i64 k', .int .i64 n', .string s', .int .i64 x', .int .i64 y'] [.int .i64 0, .int .i64 0, .string ⟨#[]⟩, .int .i64 0, .int .i64 0]
 have H1 := Lib.hid D1; have H2 := Lib.hid D2; have H3 := Lib.hid D3; have HB := Lib.hid hb0; clear D1 D2 D3 hb0
 go_enter Tryz.func51, Tryz.ntmps51
 go_wp2_with (fail)
 refine (HO.out _).mono ?_
 rintro e w1 ⟨rfl, hb⟩
 replace H1 := Lib.hid (H1.out.next hb); replace H2 := Lib.hid (H2.out.next hb); replace H3 := Lib.hid (H3.out.next hb); replace HB := Lib.hid (Below.next HB.out hb); clear hb
 obtain ⟨c0, c1, c2, c3, c4⟩ := five H1.out
 go_wp2_with (fail)
 clear c0 c1 c2 c3 c4
 refine (HC.out _).mono ?_
 rintro e w3 ⟨rfl, hb⟩
 replace H1 := Lib.hid (H1.out.next hb); replace H2 := Lib.hid (H2.out.next hb); replace H3 := Lib.hid (H3.out.next hb); replace HB := Lib.hid (Below.next HB.out hb); clear hb
 obtain ⟨c0, c1, c2, c3, c4⟩ := five H1.out
 obtain ⟨f0, f1, f2, f3, f4⟩ := thaw H3.out
 obtain ⟨e0, e1, e2, e3, e4⟩ := five H3.out
 have g2 := H1.out.f 2 _ rfl
 go_wp2_with (fail)
 have h3 := H3.out.put (show w.heap.size ≠ w.heap.size + 1 + 1 by omega) 2 (.string s)
 have hb3 := HB.out.setCell (p := ⟨w.heap.size, 2, none⟩) (Nat.le_refl _) (.string s)
 clear c0 c1 c2 c3 c4 f0 f1 f2 f3 f4 e0 e1 e2 e3 e4 g2
 refine fin5 (P := bodyPost _ _ _ _ _) h3 hb3 (by omega) _ _ _ _ _ fun w4 hx hy _ => ?_
 obtain ⟨c0, c1, c2, c3, c4⟩ := five hx
 exact bodyPost_ret (v := .agg #[.int .i64 k, .int .i64 n, .string s, .int .i64 x, .int .i64 y]) (by simp [results, Tryz.results51, go_sem, c0, c1, c2, c3, c4]) rfl ⟨rfl, hy⟩
theorem sum_text (c : ByteArray) : (c.toList == [115, 117, 109]) = decide (c.data.toList = wSum) := by
 rw [ByteArray.toList_eq, Bool.eq_iff_iff, beq_iff_eq, decide_eq_true_iff]; rfl
set_option maxRecDepth 100000 in
theorem numbers_any (c : ByteArray) (a b : Int) (ha : -9007199254740992 ≤ a ∧ a ≤ 9007199254740992) (hb : -9007199254740992 ≤ b ∧ b ≤ 9007199254740992) (w : World) :
 Calls Tryz.prog 52 #[.string c, .int .i64 a, .int .i64 b] w (Gives (.int .i64 (if c.data.toList = wSum then rg (a + b) 9007199254740992 else (Int.gcd a b : Int))) w) := by
 have hq := sum_text c
 by_cases h : c.data.toList = wSum
 · rw [if_pos h]
   rw [decide_eq_true h] at hq
   have HC := Lib.hid (fun w => round_any (a + b) 9007199254740992 (by decide) (by omega) w)
   have h1 : wrap64 (a + b) = a + b := IntWalk.wrap64_in _ (by omega)
   clear h ha hb
   go_enter Tryz.func52, Tryz.ntmps52
   go_wp2_with (fail)
   refine (HC.out _).mono ?_
   rintro e w1 ⟨rfl, hb⟩
   have HB := Lib.hid hb; clear hb
   go_wp2_with (fail)
   go_ret
   exact ⟨rfl, HB.out⟩
 · rw [if_neg h]
   rw [decide_eq_false h] at hq
   have HC := Lib.hid (fun w => common_any a b ha hb w)
   generalize (Int.gcd a b : Int) = g at *
   clear h ha hb
   go_enter Tryz.func52, Tryz.ntmps52
   go_wp2_with (fail)
   refine (HC.out _).mono ?_
   rintro e w1 ⟨rfl, hb⟩
   have HB := Lib.hid hb; clear hb
   go_wp2_with (fail)
   go_ret
   exact ⟨rfl, HB.out⟩
set_option maxRecDepth 100000 in
set_option maxHeartbeats 1000000 in
theorem spots_sum (c : ByteArray) (x y u v : Int) (hq : (c.toList == [115, 117, 109]) = true) (hx : -16777216 ≤ x ∧ x ≤ 16777216) (hy : -16777216 ≤ y ∧ y ≤ 16777216) (hu : -16777216 ≤ u ∧ u ≤ 16777216) (hv : -16777216 ≤ v ∧ v ≤ 16777216) (w : World) :
 Calls Tryz.prog 53 #[.string c, .agg #[.int .i64 x, .int .i64 y], .agg #[.int .i64 u, .int .i64 v]] w (Gives (.agg #[.int .i64 (rg (x + u) 16777216), .int .i64 (rg (y + v) 16777216)]) w) := by
 have h1 : wrap64 (x + u) = x + u := IntWalk.wrap64_in _ (by omega)
 have h2 : wrap64 (y + v) = y + v := IntWalk.wrap64_in _ (by omega)
 have HX := Lib.hid (fun w => round_any (x + u) 16777216 (by decide) (by omega) w)
 have HY := Lib.hid (fun w => round_any (y + v) 16777216 (by decide) (by omega) w)
 generalize rg (x + u) 16777216 = p at *
 generalize rg (y + v) 16777216 = q at *
 clear hx hy hu hv
 obtain ⟨kb, o1, o2, o3⟩ := boxes3 43 (.int .i64 x) (.int .i64 y) (.int .i64 u) (.int .i64 v) (.int .i64 0) (.int .i64 0) w
 have HB := Lib.hid kb; have D1 := Lib.hid o1; have D2 := Lib.hid o2; have D3 := Lib.hid o3
 clear kb o1 o2 o3
 go_enter Tryz.func53, Tryz.ntmps53
 go_wp2_with (fail)
 generalize ((w.alloc (.cells #[.int .i64 x, .int .i64 y] 43)).alloc (.cells #[.int .i64 u, .int .i64 v] 43)).alloc (.cells #[.int .i64 0, .int .i64 0] 43) = v1 at *
 have d0 := fun r : Over v1 => (D1.out.over r).c0
 have d1 := fun r : Over v1 => (D1.out.over r).c1
 have e0 := fun r : Over v1 => (D2.out.over r).c0
 have e1 := fun r : Over v1 => (D2.out.over r).c1
 refine wp_over_tail 13 (by kernel_rfl) (by kernel_rfl) ?_
 simp only [List.take_succ_cons, List.take_zero, List.drop_succ_cons, List.drop_zero]
 repeat (go_big_quiet_step (first | fail | with_reducible exact over_gives _ (HX.out _) | with_reducible exact over_gives _ (HY.out _)))
 refine wpQuiet_nil ?_
 rintro w2 ⟨⟨w2, hb⟩, rfl⟩
 have E3 := D3.out.next hb
 replace HB := Lib.hid (Below.next HB.out hb)
 have hz := E3.lt
 have K3 := Lib.hid E3
 obtain ⟨c0, c1, f0, f1⟩ := E3
 clear hb d0 d1 e0 e1 D1 D2 D3
 go_wp2_with (fail)
 clear c0 c1 f0 f1
 refine fin2 (P := bodyPost _ _ _ _ _) K3.out HB.out (by omega) _ _ fun w4 hx hy => ?_
 obtain ⟨c0, c1, _, _⟩ := hx
 exact bodyPost_ret (v := .agg #[.int .i64 p, .int .i64 q]) (by simp [results, Tryz.results53, go_sem, c0, c1]) rfl ⟨rfl, hy⟩
set_option maxHeartbeats 1000000 in
theorem spots_gcd (c : ByteArray) (x y u v : Int) (hq : (c.toList == [115, 117, 109]) = false) (ha : rb ⟨x, y⟩ = true) (hb : rb ⟨u, v⟩ = true) (w : World) :
 Calls Tryz.prog 53 #[.string c, .agg #[.int .i64 x, .int .i64 y], .agg #[.int .i64 u, .int .i64 v]] w (Gives (.agg #[.int .i64 (Pt.cg ⟨x, y⟩ ⟨u, v⟩).x, .int .i64 (Pt.cg ⟨x, y⟩ ⟨u, v⟩).y]) w) := by
 have HC := Lib.hid (fun w => common_yes ha hb w)
 generalize (Pt.cg ⟨x, y⟩ ⟨u, v⟩).x = p at *
 generalize (Pt.cg ⟨x, y⟩ ⟨u, v⟩).y = q at *
 clear ha hb
 obtain ⟨kb, o1, o2, o3⟩ := boxes3 43 (.int .i64 x) (.int .i64 y) (.int .i64 u) (.int .i64 v) (.int .i64 0) (.int .i64 0) w
 have HB := Lib.hid kb; have D1 := Lib.hid o1; have D2 := Lib.hid o2; have D3 := Lib.hid o3
 clear kb o1 o2 o3
 go_enter Tryz.func53, Tryz.ntmps53
 go_wp2_with (fail)
 generalize ((w.alloc (.cells #[.int .i64 x, .int .i64 y] 43)).alloc (.cells #[.int .i64 u, .int .i64 v] 43)).alloc (.cells #[.int .i64 0, .int .i64 0] 43) = v1 at *
 refine (HC.out _).mono ?_
 rintro e w2 ⟨rfl, hb⟩
 have E3 := D3.out.next hb
 have hz := E3.lt
 have K3 := Lib.hid ((E3.set (.int .i64 p) (.int .i64 q)).old (.cells #[.int .i64 p, .int .i64 q] 43))
 have HB2 := Lib.hid ((((Below.next HB.out hb).setCell (p := ⟨w.heap.size + 1 + 1, 0, none⟩) (by show _ ≤ w.heap.size + 1 + 1; omega) (.int .i64 p)).setCell (p := ⟨w.heap.size + 1 + 1, 1, none⟩) (by show _ ≤ w.heap.size + 1 + 1; omega) (.int .i64 q)).alloc (by simp; have := HB.out.size; have := hb.size; omega) (.cells #[.int .i64 p, .int .i64 q] 43))
 obtain ⟨c0, c1, f0, f1⟩ := E3
 clear hb D1 D2 D3 HB
 go_wp2_with (fail)
 clear c0 c1 f0 f1
 obtain ⟨c0, c1, _, _⟩ := K3.out
 have hy := HB2.out
 generalize ((w2.setCell ⟨w.heap.size + 1 + 1, 0, none⟩ (.int .i64 p)).setCell ⟨w.heap.size + 1 + 1, 1, none⟩ (.int .i64 q)).alloc (.cells #[.int .i64 p, .int .i64 q] 43) = w4 at *
 exact bodyPost_ret (v := .agg #[.int .i64 p, .int .i64 q]) (by simp [results, Tryz.results53, go_sem, c0, c1]) rfl ⟨rfl, hy⟩
end Go.Proofs.YtimllihegnokeaaGreatDoor.Jo
namespace Go.Proofs.YtimllihegnokeaaGreatDoor.Jo
open Go.ChangeShapes Go.WideShapes Go.ChangeAt Go.RowKit Ov Va
set_option maxHeartbeats 1000000 in
theorem orE_any (l : List Int) (b : Nat) (w : World) (h : Blk w b (l.map fun a => Value.int .i64 a)) (hl : l.length ≤ 4) : Calls Tryz.prog 28 #[.slice (some ⟨b, 0, none⟩) l.length l.length] w fun e w' => e = .returned (.int .i64 (orl l)) ∧ w = w' := by
 have H := Lib.hid h; clear h
 obtain ⟨n, hn⟩ : ∃ n, l.length = n := ⟨_, rfl⟩
 rw [hn] at hl ⊢
 have HN := Lib.hid hn; clear hn
 go_enter Tryz.func28, Tryz.ntmps28
 go_wp2_with (fail)
 go_loop [5, 8] (fun _ i => ∃ k : Nat, k ≤ n ∧ i = .int .i64 k ∧ orl l = orl (l.drop k)) (fun _ i => n - (intOf i).toNat)
 case atStart => exact ⟨0, Nat.zero_le _, rfl, by simp⟩
 case round =>
  obtain ⟨k, hk, rfl, hd⟩ := hrel
  have HD := Lib.hid hd; clear hd
  by_cases hlt : k < n
  · have hkl : k < l.length := by have := HN.out; omega
    obtain ⟨a, ha⟩ : ∃ a, l[k] = a := ⟨_, rfl⟩
    have HS : Hid (orl (l.drop k) = if a ≠ 0 then a else orl (l.drop (k + 1))) := by
     show _ = _
     rw [orl_drop hkl, ha]
    have hc : w.cell? ⟨b, k, none⟩ = some (.int .i64 a) := H.out.c k _ (by rw [List.getElem?_map, List.getElem?_eq_getElem hkl, ha]; rfl)
    clear ha hkl
    by_cases hz : a = 0
    · subst hz
      go_wp2_with (fail)
      go_round
      case rel => exact ⟨k + 1, by omega, by go_num, by rw [HD.out, HS.out]; rfl⟩
      case measure => simp [intOf]; omega
    · have hne : (a != 0) = true := bne_iff_ne.2 hz
      have HZ := Lib.hid hz; clear hz
      go_wp2_with (fail)
      go_ret
      exact ⟨ret_int (by rw [HD.out, HS.out, if_pos HZ.out]), rfl⟩
  · have HS : Hid (orl (l.drop k) = 0) := by
     show _ = _
     rw [List.drop_of_length_le (by have := HN.out; omega)]; rfl
    go_wp2_with (fail)
    go_ret
    exact ⟨ret_int (by rw [HD.out, HS.out]), rfl⟩
end Go.Proofs.YtimllihegnokeaaGreatDoor.Jo
namespace Go.Proofs.YtimllihegnokeaaGreatDoor.Ev
open Ov Tp Ga Va Ex
section
variable {K K' : List UInt8} {V C V' C' : Va}
end
section
variable {K K' : List UInt8} {V C V' C' : Va}
end
end Go.Proofs.YtimllihegnokeaaGreatDoor.Ev

/-
  Small texts of this claim, together: ExBack, EvArg.
-/
import Derived.Test.YtcdjincaedpodaaGreatDoorQ1
import Derived.Test.YtcdjincaedpodaaGreatDoorQ2
import Derived.Deep.Strs
namespace Go.Proofs.YtcdjincaedpodaaGreatDoor.Ex
open Ov Tp Ga Va
def fine (u : List UInt8) : Prop := ∀ c, u.head? = some c → c = 32 ∨ c = 41
theorem fine_nil : fine [] := fun c h => by simp at h
theorem fine_cons {c : UInt8} (u : List UInt8) (h : c = 32 ∨ c = 41) : fine (c :: u) := fun d hd => by
 obtain rfl := Option.some.inj hd; exact h
theorem fine_ends (v : Va) {u : List UInt8} (h : fine u) : ends v u := fun _ => ⟨fun c hc => by rcases h c hc with rfl | rfl <;> decide, fun _ e => by
 rcases h 58 e with h | h <;> exact absurd h (by decide)⟩
theorem fine_le {u : List UInt8} (h : fine u) : ∀ c, u.head? = some c → le c = false := fun c hc => by
 rcases h c hc with rfl | rfl <;> decide
theorem runs_same {s s' : St} (h : step s = step s') : runs s = runs s' := by
 cases e : step s with
 | inr r => rw [runs_end e, runs_end (h.symm.trans e)]
 | inl x => rw [runs_go e, runs_go (h.symm.trans e)]
theorem runs_blank (a : List No) (st : List Nat) (t : List UInt8) (i : Nat) : runs ⟨a, st, 32 :: t, i⟩ = runs ⟨a, st, t, i + 1⟩ := by
 apply runs_same
 unfold step
 dsimp only
 rw [bl_blank, List.drop_succ_cons, show i + (bl t + 1) = i + 1 + bl t by omega]
theorem fl_app {w u : List UInt8} (hw : w.all le = true) (hu : ∀ c, u.head? = some c → le c = false) : fl (w ++ u) = w := by
 unfold fl
 rw [List.takeWhile_append_of_pos (by simpa using hw)]
 cases u with
 | nil => simp
 | cons c t => rw [List.takeWhile_cons, hu c rfl]; simp
theorem pz_none {c : UInt8} (t : List UInt8) (h1 : c ≠ 34) (h2 : c ≠ 45) (h3 : dg c = false) : pz (c :: t) = (vz, 0, 10) := by
 unfold pz
 rw [List.head?_cons, if_neg (fun e => h1 (Option.some.inj e)), if_neg]
 rintro (e | ⟨d, e, hd⟩)
 · exact h2 (Option.some.inj e)
 · obtain rfl := Option.some.inj e
   rw [h3] at hd; cases hd
theorem pz_head {l : List UInt8} (h : (pz l).2.2 = 0) : ∃ c t, l = c :: t ∧ c ≠ 32 ∧ c ≠ 41 ∧ c ≠ 40 := by
 cases l with
 | nil =>
   rw [show pz [] = (vz, 0, 10) by unfold pz; simp] at h
   cases h
 | cons c t =>
   refine ⟨c, t, rfl, ?_⟩
   by_cases hc : c = 32 ∨ c = 41 ∨ c = 40
   · have : pz (c :: t) = (vz, 0, 10) := by rcases hc with rfl | rfl | rfl <;> exact pz_none t (by decide) (by decide) (by decide)
     rw [this] at h; cases h
   · exact ⟨fun e => hc (.inl e), fun e => hc (.inr (.inl e)), fun e => hc (.inr (.inr e))⟩
theorem cp_head {c : UInt8} {t : List UInt8} {b w : Nat} (hb : b ≠ 400) (hw : w ≤ 24) (h1 : c ≠ 41) (h2 : c ≠ 40) : cp (c :: t) b w = cv (c :: t) := by
 unfold cp
 rw [if_neg (by simp), if_neg hb, if_neg (by omega), List.head?_cons, if_neg (fun h => h1 (Option.some.inj h.2)), if_neg (fun h => h2 (Option.some.inj h))]
theorem cp_value {v : Va} (hv : rt v = true) {u : List UInt8} (hu : fine u) {b w : Nat} (hb : b ≠ 400) (hw : w ≤ 24) : bl (wr v ++ u) = 0 ∧ cp (wr v ++ u) b w = (⟨0, v⟩, (wr v).length, 0) := by
 have hp := pz_wr hv (fine_ends v hu)
 obtain ⟨c, t, e, h1, h2, h3⟩ := pz_head (l := wr v ++ u) (by rw [hp])
 have hcv : cv (wr v ++ u) = (⟨0, v⟩, (wr v).length, 0) := by
  unfold cv
  rw [hp]
  rfl
 rw [← hcv, e]
 exact ⟨bl_other t h1, cp_head hb hw h2 h3⟩
theorem cp_name {n : Int} (hn : 0 ≤ n ∧ n < 5) {u : List UInt8} (hu : fine u) {b w : Nat} (hb : b ≠ 400) (hw : w ≤ 24) : bl (nm n ++ u) = 0 ∧ cp (nm n ++ u) b w = (⟨1, nv n⟩, (nm n).length, 0) := by
 obtain ⟨i, rfl⟩ : ∃ i : Nat, n = (i : Int) := ⟨n.toNat, by omega⟩
 have hi : i < 5 := by omega
 have h1 := (nm_in hn).1
 obtain ⟨hf, hl⟩ := nf_all ⟨i, hi⟩
 change nf nml[i]! = some i at hf
 change nml[i]!.all le = true at hl
 rw [← nm_at hi] at hf hl
 have hcn : cn (nm (i : Int) ++ u) = (⟨1, nv (i : Int)⟩, (nm (i : Int)).length, 0) := by
  unfold cn
  rw [fl_app hl (fine_le hu), hf]
 obtain ⟨c, t, e⟩ : ∃ c t, nm (i : Int) = c :: t := List.exists_cons_of_ne_nil (by intro e; rw [e] at h1; simp at h1)
 have hc : le c = true := by rw [e] at hl; simp at hl; exact hl.1
 have hc' := of_decide_eq_true hc
 have h32 : c ≠ 32 := by rintro rfl; revert hc; decide
 have h41 : c ≠ 41 := by rintro rfl; revert hc; decide
 have h40 : c ≠ 40 := by rintro rfl; revert hc; decide
 have hp : pz (nm (i : Int) ++ u) = (vz, 0, 10) := by
  rw [e]
  refine pz_none _ ?_ ?_ (decide_eq_false (by omega))
  · rintro rfl; revert hc; decide
  · rintro rfl; revert hc; decide
 have hcv : cv (nm (i : Int) ++ u) = (⟨1, nv (i : Int)⟩, (nm (i : Int)).length, 0) := by
  unfold cv
  rw [hp, ← hcn]
  rfl
 rw [← hcv, e]
 exact ⟨bl_other _ h32, cp_head hb hw h41 h40⟩
theorem cp_kind {o : Int} (ho : 2 ≤ o ∧ o ≤ 29) {u : List UInt8} (hu : fine u) {b w : Nat} (hb : b ≠ 400) (hw : w ≤ 24) : bl (40 :: (wd o ++ u)) = 0 ∧ cp (40 :: (wd o ++ u)) b w = (⟨o, vz⟩, 1 + (wd o).length, 0) := by
 obtain ⟨i, rfl⟩ : ∃ i : Nat, o = (i : Int) := ⟨o.toNat, by omega⟩
 have hi : i < 30 := by omega
 obtain ⟨hf, hl⟩ := kf_all ⟨i, hi⟩ (by show 2 ≤ i; omega)
 change kf wdl[i]! = some i at hf
 change wdl[i]!.all le = true at hl
 rw [← wd_at hi] at hf hl
 refine ⟨bl_other _ (by decide), ?_⟩
 unfold cp
 rw [if_neg (by simp), if_neg hb, if_neg (by omega), List.head?_cons, if_neg (fun h => absurd (Option.some.inj h.2) (by decide)), if_pos rfl]
 unfold ck
 rw [List.tail_cons, fl_app hl (fine_le hu), hf]
theorem step_node {a : List No} {m : Nat} {more : List Nat} {t u : List UInt8} {i z : Nat} {n : No} (hb : bl t = 0) (hc : cp t a.length more.length = (n, z, 0)) (hz : t.drop z = u) :
 step ⟨a, (m + 1) :: more, t, i⟩ = .inl ⟨a ++ [n], push n m more, u, i + z⟩ := by
 unfold step
 dsimp only
 rw [hb, List.drop_zero, hc, if_pos (by omega), if_neg (fun h => h rfl)]
 dsimp only
 rw [hz]
 rfl
theorem step_shut (a : List No) (m : Nat) (more : List Nat) (u : List UInt8) (i : Nat) : step ⟨a, 0 :: m :: more, 41 :: u, i⟩ = .inl ⟨a, m :: more, u, i + 1⟩ := by
 unfold step
 dsimp only
 rw [bl_other u (show (41 : UInt8) ≠ 32 by decide), List.drop_zero, if_neg (by omega), if_pos (by simp), if_neg (fun h => h rfl)]
 rfl
theorem go_it {d : Nat} (ih : ∀ c r, ex d (c ++ r) = some r → ∀ a m more u i, fine u → more.length + d ≤ 25 → a.length + c.length ≤ 400 → runs ⟨a, (m + 1) :: more, wt d (c ++ r) ++ u, i⟩ = runs ⟨a ++ c, m :: more, u, i + (wt d (c ++ r)).length⟩) :
 ∀ k c r, it (ex d) k (c ++ r) = some r → ∀ a m more u i, fine u → more.length + d ≤ 25 → a.length + c.length ≤ 400 →
  runs ⟨a, (m + k) :: more, ts (wt d) (ex d) k (c ++ r) ++ u, i⟩ = runs ⟨a ++ c, m :: more, u, i + (ts (wt d) (ex d) k (c ++ r)).length⟩
 | 0, c, r, h, a, m, more, u, i, _, _, _ => by
   rw [it_zero] at h
   have hc : c = [] := by
    have := Option.some.inj h
    exact List.append_left_eq_self.1 this
   subst hc
   rw [List.append_nil]; rfl
 | k + 1, c, r, h, a, m, more, u, i, hu, hm, ha => by
   rw [it_succ] at h
   obtain ⟨r1, h1, h2⟩ := Option.bind_eq_some_iff.1 h
   obtain ⟨c1, e1, _, _⟩ := ex_takes d _ _ h1
   obtain ⟨c2, rfl, _, _⟩ := it_takes (ex_takes d) k _ _ h2
   rw [← List.append_assoc] at e1
   obtain rfl := List.append_cancel_right e1
   rw [List.length_append] at ha
   rw [ts_succ h1, List.append_assoc] at *
   rw [List.cons_append, runs_blank, List.append_assoc]
   have hf : fine (ts (wt d) (ex d) k (c2 ++ r) ++ u) := by
    cases k with
    | zero => exact hu
    | succ k => exact fine_cons _ (.inl rfl)
   rw [show m + (k + 1) = m + k + 1 by omega, ih c1 (c2 ++ r) h1 a (m + k) more _ (i + 1) hf hm (by omega)]
   rw [go_it ih k c2 r h2 (a ++ c1) m more u _ hu hm (by rw [List.length_append]; omega), List.append_assoc, List.length_cons, List.length_append]
   congr 2
   omega
theorem go_ex : ∀ d c r, ex d (c ++ r) = some r → ∀ a m more u i, fine u → more.length + d ≤ 25 → a.length + c.length ≤ 400 →
 runs ⟨a, (m + 1) :: more, wt d (c ++ r) ++ u, i⟩ = runs ⟨a ++ c, m :: more, u, i + (wt d (c ++ r)).length⟩
 | 0, _, _, h, _, _, _, _, _, _, _, _ => by cases h
 | d + 1, c, r, h, a, m, more, u, i, hu, hm, ha => by
   have hne : c ≠ [] := by
    obtain ⟨c', e, hn, _⟩ := ex_takes _ _ _ h
    obtain rfl := List.append_cancel_right e
    exact hn
   cases c with
   | nil => exact absurd rfl hne
   | cons n c =>
     rw [List.cons_append, ex_cons] at h
     split at h
     · rename_i hn
       rw [List.length_cons] at ha
       rw [List.cons_append, wt_cons]
       rcases rn_cases hn with ⟨h0, hv⟩ | ⟨h0, hv, hr⟩ | ⟨h0, hv⟩
       · have hp : pa n.o = 0 := rn_leaf (.inl h0)
         rw [hp, it_zero] at h
         obtain rfl : c = [] := List.append_left_eq_self.1 (Option.some.inj h)
         rw [if_pos h0]
         obtain ⟨hb, hc⟩ := cp_value hv hu (b := a.length) (w := more.length) (by omega) (by omega)
         have hnn : (⟨0, n.v⟩ : No) = n := by rw [← h0]
         rw [hnn] at hc
         rw [runs_go (step_node hb hc List.drop_left)]
         unfold push
         rw [hp, if_neg (by omega)]
       · have hp : pa n.o = 0 := rn_leaf (.inr h0)
         rw [hp, it_zero] at h
         obtain rfl : c = [] := List.append_left_eq_self.1 (Option.some.inj h)
         rw [if_neg (by omega), if_pos h0]
         obtain ⟨hb, hc⟩ := cp_name hr hu (b := a.length) (w := more.length) (by omega) (by omega)
         have hnn : (⟨1, nv n.v.n⟩ : No) = n := by rw [← h0, ← hv]
         rw [hnn] at hc
         rw [runs_go (step_node hb hc List.drop_left)]
         unfold push
         rw [hp, if_neg (by omega)]
       · have hk := kind_in h0
         rw [if_neg (by omega), if_neg (by omega)]
         have hf : fine (ts (wt d) (ex d) (pa n.o) (c ++ r) ++ (41 :: u)) := by
          obtain ⟨k, hk'⟩ : ∃ k, pa n.o = k + 1 := ⟨pa n.o - 1, by omega⟩
          rw [hk']; exact fine_cons _ (.inl rfl)
         obtain ⟨hb, hc⟩ := cp_kind h0 hf (b := a.length) (w := more.length) (by omega) (by omega)
         have hnn : (⟨n.o, vz⟩ : No) = n := by rw [← hv]
         rw [hnn] at hc
         have e : 40 :: (wd n.o ++ (ts (wt d) (ex d) (pa n.o) (c ++ r) ++ [41])) ++ u = 40 :: (wd n.o ++ (ts (wt d) (ex d) (pa n.o) (c ++ r) ++ (41 :: u))) := by simp
         have hd : (40 :: (wd n.o ++ (ts (wt d) (ex d) (pa n.o) (c ++ r) ++ (41 :: u)))).drop (1 + (wd n.o).length) = ts (wt d) (ex d) (pa n.o) (c ++ r) ++ (41 :: u) := by
          rw [Nat.add_comm, List.drop_succ_cons, List.drop_left]
         rw [e, runs_go (step_node hb hc hd)]
         unfold push
         rw [if_pos (by omega)]
         have h1 := go_it (go_ex d) (pa n.o) c r h (a ++ [n]) 0 (m :: more) (41 :: u) (i + (1 + (wd n.o).length)) (fine_cons _ (.inr rfl)) (by rw [List.length_cons]; omega) (by rw [List.length_append, List.length_singleton]; omega)
         rw [Nat.zero_add] at h1
         rw [h1, runs_go (step_shut _ _ _ _ _), List.append_assoc, List.length_cons, List.length_append, List.length_append]
         congr 2
         simp; omega
     · cases h
theorem ps_wt {l : List No} (h : Rt l = true) (hs : (wt 25 l).length ≤ 4096) : ps (wt 25 l) = (l, 0, 0) := by
 obtain ⟨h1, h2⟩ := Rt_in h
 have h3 := go_ex 25 l [] (by rw [List.append_nil]; exact h2) [] 0 [] [] 0 fine_nil (Nat.le_refl _) (by simpa using h1)
 rw [List.append_nil, List.append_nil, List.nil_append] at h3
 unfold ps
 rw [if_neg (by omega), h3]
 refine runs_end ?_
 unfold step
 dsimp only
 rw [if_neg (by omega), if_neg (by simp), if_neg (by simp)]
end Go.Proofs.YtcdjincaedpodaaGreatDoor.Ex
namespace Go.Proofs.YtcdjincaedpodaaGreatDoor.Ev
open Go.ChangeShapes Go.WideShapes Go.ChangeAt Go.RowKit Ov Tp Va
def Vin (v : Va) : Prop := (Lit.int .i64 v.k).wf = true ∧ (Lit.int .i64 v.n).wf = true ∧ v.s.length ≤ maxLen ∧ (Lit.int .i64 v.x).wf = true ∧ (Lit.int .i64 v.y).wf = true
def vdt {H : Type} (v : Va) : DataW H := .agg [.lit (.int .i64 v.k), .lit (.int .i64 v.n), .lit (.string v.s), .agg [.lit (.int .i64 v.x), .lit (.int .i64 v.y)]]
section
variable {H : Type} {enc : TypeId × Value → H} {w : World} {base : Nat} {spare : Nat → Bool} {held : Bool}
set_option maxRecDepth 100000 in
theorem val_cells {fuel : Nat} {a0 a1 a2 a3 a4 : Value} {z : DataW H × List MemPlace} (h : DataW.trod enc Tryz.prog w base spare held fuel 26 [a0, a1, a2, a3, a4] = some z) :
 ∃ v : Va, [a0, a1, a2, a3, a4] = v ∧ z = (vdt v, []) ∧ Vin v := by
 have c1 : Tryz.prog.cellsOf 3 = 1 := by kernel_rfl
 have c2 : Tryz.prog.cellsOf 9 = 1 := by kernel_rfl
 have c3 : Tryz.prog.cellsOf 24 = 2 := by kernel_rfl
 obtain ⟨y0, y1, y2, y3, m, hx, _, h0, h1, h2, h3⟩ := Joins.trod_struct4 Tryz.underlying26 h
 simp only [c1, c2, c3] at h0 h1 h2 h3
 obtain ⟨k, e0, rfl, w0⟩ := DataW.trod_int Tryz.underlying3 h0
 obtain ⟨n, e1, rfl, w1⟩ := DataW.trod_int Tryz.underlying3 h1
 obtain ⟨s, e2, rfl, w2⟩ := DataW.trod_string Tryz.underlying9 h2
 obtain ⟨z0, z1, m', hz, _, g0, g1⟩ := trod_struct2 Tryz.underlying24 h3
 simp only [c1] at g0 g1
 obtain ⟨x, f0, rfl, u0⟩ := DataW.trod_int Tryz.underlying3 g0
 obtain ⟨y, f1, rfl, u1⟩ := DataW.trod_int Tryz.underlying3 g1
 have e3 : [a0] = [Value.int .i64 k] := e0
 have e4 : [a1] = [Value.int .i64 n] := e1
 have e5 : [a2] = [Value.string s] := e2
 have e6 : [a3] = [Value.int .i64 x] := f0
 have e7 : [a4] = [Value.int .i64 y] := f1
 obtain rfl : a0 = .int .i64 k := by simpa using e3
 obtain rfl : a1 = .int .i64 n := by simpa using e4
 obtain rfl : a2 = .string s := by simpa using e5
 obtain rfl : a3 = .int .i64 x := by simpa using e6
 obtain rfl : a4 = .int .i64 y := by simpa using e7
 subst hz
 refine ⟨⟨k, n, s.data.toList, x, y⟩, by dsimp only; rw [show tx s.data.toList = s from (tx_ext rfl).symm], ?_, w0, w1, by simpa using w2, u0, u1⟩
 rw [hx]; rfl
set_option maxRecDepth 100000 in
theorem val_mk {v : Va} (h : Vin v) : DataW.trod enc Tryz.prog w base spare held 3 26 v = some (vdt v, []) := by
 obtain ⟨w0, w1, w2, w3, w4⟩ := h
 have c1 : Tryz.prog.cellsOf 3 = 1 := by kernel_rfl
 have c2 : Tryz.prog.cellsOf 9 = 1 := by kernel_rfl
 have c3 : Tryz.prog.cellsOf 24 = 2 := by kernel_rfl
 have c4 : Tryz.prog.cellsOf 26 = 5 := by kernel_rfl
 have hs : DataW.trod enc Tryz.prog w base spare held 2 9 [.string (tx v.s)] = some (.lit (.string v.s), []) := by
  have : (tx v.s).size ≤ maxLen := by rw [tx_size]; exact w2
  simp [DataW.trod, Tryz.underlying9, this, tx_list]
 have hp := trod_struct2_mk (enc := enc) (P := Tryz.prog) (w := w) (base := base) (spare := spare) (held := held) (n := 1) (cs := [.int .i64 v.x, .int .i64 v.y]) (y0 := (.lit (.int .i64 v.x), [])) (y1 := (.lit (.int .i64 v.y), []))
  Tryz.underlying24 (by simp [c3]) (by simp only [c1]; exact trod_int_mk 0 Tryz.underlying3 w3) (by simp only [c1]; exact trod_int_mk 0 Tryz.underlying3 w4)
 have ht := Joins.trod_struct4_mk (enc := enc) (P := Tryz.prog) (w := w) (base := base) (spare := spare) (held := held) (n := 2) (cs := v)
  (y0 := (.lit (.int .i64 v.k), [])) (y1 := (.lit (.int .i64 v.n), [])) (y2 := (.lit (.string v.s), [])) (y3 := (.agg [.lit (.int .i64 v.x), .lit (.int .i64 v.y)], []))
  Tryz.underlying26 (by simp [c4]) (by simp only [c1]; exact trod_int_mk 1 Tryz.underlying3 w0) (by simp only [c1]; exact trod_int_mk 1 Tryz.underlying3 w1) (by simp only [c2]; exact hs)
  (by simp only [c3]; simpa using hp)
 simpa [vdt] using ht
set_option maxRecDepth 100000 in
theorem env_of {r : Reach} {b0 : Nat} {v : Value} {d : DataW H} {p : List MemPlace} (hv : Value.okWide Tryz.prog w r b0 28 v) (h : DataW.Trod enc Tryz.prog w base spare held 28 v d p) :
 ∃ (k : List UInt8) (x y : Va), v = .agg #[.string (tx k), .int .i64 x.k, .int .i64 x.n, .string (tx x.s), .int .i64 x.x, .int .i64 x.y, .int .i64 y.k, .int .i64 y.n, .string (tx y.s), .int .i64 y.x, .int .i64 y.y] ∧
  d = .agg [.lit (.string k), vdt x, vdt y] ∧ p = [] ∧ k.length ≤ maxLen ∧ Vin x ∧ Vin y := by
 have c2 : Tryz.prog.cellsOf 9 = 1 := by kernel_rfl
 have c4 : Tryz.prog.cellsOf 26 = 5 := by kernel_rfl
 obtain ⟨cs, rfl, hsz⟩ := okWide_struct Tryz.underlying28 hv
 have hC : Tryz.prog.cellsOf 28 = 11 := by kernel_rfl
 obtain ⟨l⟩ := cs
 match l, hsz.trans hC with
 | [a0, a1, a2, a3, a4, a5, a6, a7, a8, a9, a10], _ =>
   obtain ⟨fuel, hf⟩ := h
   obtain ⟨y0, y1, y2, m, hx, _, h0, h1, h2⟩ := Go.Deep.trod_struct3 Tryz.underlying28 hf
   simp only [Prod.mk.injEq] at hx
   simp only [c2, c4, Value.cells] at h0 h1 h2
   obtain ⟨s, e0, rfl, w0⟩ := DataW.trod_string Tryz.underlying9 h0
   have e1 : [a0] = [Value.string s] := e0
   obtain rfl : a0 = .string s := by simpa using e1
   change DataW.trod enc Tryz.prog w base spare held m 26 [a1, a2, a3, a4, a5] = _ at h1
   change DataW.trod enc Tryz.prog w base spare held m 26 [a6, a7, a8, a9, a10] = _ at h2
   obtain ⟨u, e2, rfl, q1⟩ := val_cells h1
   obtain ⟨u', e3, rfl, q2⟩ := val_cells h2
   simp only [List.cons.injEq, and_true] at e2 e3
   obtain ⟨rfl, rfl, rfl, rfl, rfl⟩ := e2
   obtain ⟨rfl, rfl, rfl, rfl, rfl⟩ := e3
   exact ⟨s.data.toList, u, u', by rw [show tx s.data.toList = s from (tx_ext rfl).symm], hx.1, by simpa using hx.2, by simpa using w0, q1, q2⟩
set_option maxRecDepth 100000 in
theorem shut_env {k : List UInt8} {x y : Va} (hk : k.length ≤ maxLen) (hx : Vin x) (hy : Vin y) :
 DataW.Trod enc Tryz.prog w base spare held 28 (.agg #[.string (tx k), .int .i64 x.k, .int .i64 x.n, .string (tx x.s), .int .i64 x.x, .int .i64 x.y, .int .i64 y.k, .int .i64 y.n, .string (tx y.s), .int .i64 y.x, .int .i64 y.y]) (.agg [.lit (.string k), vdt x, vdt y]) [] := by
 have c2 : Tryz.prog.cellsOf 9 = 1 := by kernel_rfl
 have c4 : Tryz.prog.cellsOf 26 = 5 := by kernel_rfl
 have hC : Tryz.prog.cellsOf 28 = 11 := by kernel_rfl
 have hs : DataW.trod enc Tryz.prog w base spare held 3 9 [.string (tx k)] = some (.lit (.string k), []) := by
  have : (tx k).size ≤ maxLen := by rw [tx_size]; exact hk
  simp [DataW.trod, Tryz.underlying9, this, tx_list]
 have ht := Go.Deep.trod_struct3_mk (enc := enc) (P := Tryz.prog) (w := w) (base := base) (spare := spare) (held := held) (n := 3) (cs := [.string (tx k), .int .i64 x.k, .int .i64 x.n, .string (tx x.s), .int .i64 x.x, .int .i64 x.y, .int .i64 y.k, .int .i64 y.n, .string (tx y.s), .int .i64 y.x, .int .i64 y.y])
  (y0 := (.lit (.string k), [])) (y1 := (vdt x, [])) (y2 := (vdt y, []))
  Tryz.underlying28 (by simp [hC]) (by simp only [c2]; exact hs) (by simp only [c4]; exact val_mk hx) (by simp only [c4]; exact val_mk hy)
 exact ⟨_, by simpa [Value.cells] using ht⟩
end
end Go.Proofs.YtcdjincaedpodaaGreatDoor.Ev

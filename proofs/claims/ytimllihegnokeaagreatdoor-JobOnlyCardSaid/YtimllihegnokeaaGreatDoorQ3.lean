/-
  Small texts of this claim, together: OvSplit, OvFree, OvJoin, JoPut, JoPut2.
-/
import Derived.Test.YtimllihegnokeaaGreatDoorQ2
import Derived.Shelf.Strings.SplitCore
import Derived.Shelf.Strings.Count
import Derived.Lib.SplitLaws
import Derived.Test.YtimllihegnokeaaGreatDoorQ1
import Derived.Great.BuildSlice
import Derived.Laws.Tables
import Derived.Shelf.Strings.OnBuilder
namespace Go.Proofs.YtimllihegnokeaaGreatDoor.Ov
open Go.ChangeShapes Go.WideShapes Go.ChangeAt Go.RowKit Go.Shelf
def wdsB (c : UInt8) (s : ByteArray) : List ByteArray := Lib.splitB ⟨#[c]⟩ 0 (Lib.countB s ⟨#[c]⟩) s
theorem indexB_one (c : UInt8) (s : ByteArray) : Lib.indexB s ⟨#[c]⟩ = match cutb c s.data.toList with | some p => (p.1.length : Int) | none => -1 := by
 show Lib.index s.data.toList [c] = _
 have key : ∀ s : List UInt8, Lib.index s [c] = match cutb c s with | some p => (p.1.length : Int) | none => -1 := fun s => by
  induction s with
  | nil => rfl
  | cons b t ih =>
    unfold Lib.index cutb
    by_cases hb : b = c
    · rw [if_pos (by simp [hb]), if_pos hb]; rfl
    · rw [if_neg (by simp; exact fun e => hb e.symm), if_neg hb, ih]
      cases ht : cutb c t with
      | none => rfl
      | some q => simp only [Option.map_some]; rw [if_neg (by simp)]; simp
 exact key _
theorem wdsB_none {c : UInt8} {s : ByteArray} (h : cutb c s.data.toList = none) : wdsB c s = [s] := by
 unfold wdsB; rw [Lib.splitB_miss _ _ _ _ (by rw [indexB_one, h])]
theorem wdsB_some {c : UInt8} {s : ByteArray} {a r : List UInt8} (h : cutb c s.data.toList = some (a, r)) : wdsB c s = tx a :: wdsB c (tx r) := by
 obtain ⟨es, -⟩ := cutb_some h
 have hi : Lib.indexB s ⟨#[c]⟩ = (a.length : Int) := by rw [indexB_one, h]
 have h1 : s.extract 0 (a.length + 0) = tx a := by rw [Nat.add_zero, ext_take, es]; simp
 have h2 : s.extract (a.length + (⟨#[c]⟩ : ByteArray).size) s.size = tx r := by
  show s.extract (a.length + 1) s.size = _
  rw [ext_drop, es, List.drop_append, List.drop_of_length_le (by omega)]; simp
 unfold wdsB
 rw [Lib.countB_hit s ⟨#[c]⟩ a.length (Nat.le_refl 1) hi, Nat.add_comm, Lib.splitB_hit _ _ _ _ _ hi, h1, h2]
theorem wdsB_pos (c : UInt8) (s : ByteArray) : 1 ≤ (wdsB c s).length := by
 cases h : cutb c s.data.toList with
 | none => rw [wdsB_none h]; exact Nat.le_refl _
 | some q => obtain ⟨a, r⟩ := q; rw [wdsB_some h]; simp
theorem wdsB_len (c : UInt8) (s : ByteArray) : (wdsB c s).length = Lib.countB s ⟨#[c]⟩ + 1 := Lib.splitB_all ⟨#[c]⟩ (Nat.le_refl 1) 0 _ s rfl
def cntRen : Ren := ⟨fun | 138 => 232 | 143 => 178 | 195 => 250 | 217 => 236 | 218 => 252 | 219 => 184 | 224 => 238 | 225 => 237 | 266 => 258 | 267 => 239 | 314 => 259 | n => n, fun | 0 => 0 | 3 => 3 | 4 => 4 | 5 => 5 | 9 => 9 | 46 => 192 | 51 => 101 | 146 => 253 | n => n, fun | 1 => 2 | n => n⟩
theorem cntLays : Lays.n138 Tryz.prog cntRen :=
 { mixed := by kernel_rfl
   f138 := by kernel_rfl
   f143 := by kernel_rfl
   f195 := by kernel_rfl
   f217 := by kernel_rfl
   f218 := by kernel_rfl
   f219 := by kernel_rfl
   f224 := by kernel_rfl
   f225 := by kernel_rfl
   f266 := by kernel_rfl
   f267 := by kernel_rfl
   f314 := by kernel_rfl
   t0 := by kernel_rfl
   a0 := fun _ => by kernel_rfl
   z0 := fun _ => by kernel_rfl
   v0 := fun _ => by kernel_rfl
   t3 := by kernel_rfl
   a3 := fun _ => by kernel_rfl
   z3 := fun _ => by kernel_rfl
   v3 := fun _ => by kernel_rfl
   t4 := by kernel_rfl
   a4 := fun _ => by kernel_rfl
   z4 := fun _ => by kernel_rfl
   v4 := fun _ => by kernel_rfl
   t5 := by kernel_rfl
   a5 := fun _ => by kernel_rfl
   z5 := fun _ => by kernel_rfl
   v5 := fun _ => by kernel_rfl
   t9 := by kernel_rfl
   a9 := fun _ => by kernel_rfl
   z9 := fun _ => by kernel_rfl
   v9 := fun _ => by kernel_rfl
   t46 := by kernel_rfl
   a46 := fun _ => by kernel_rfl
   z46 := fun _ => by kernel_rfl
   v46 := fun _ => by kernel_rfl
   t51 := by kernel_rfl
   a51 := fun _ => by kernel_rfl
   z51 := fun _ => by kernel_rfl
   v51 := fun _ => by kernel_rfl
   t146 := by kernel_rfl
   a146 := fun _ => by kernel_rfl
   z146 := fun _ => by kernel_rfl
   v146 := fun _ => by kernel_rfl
   g1 := by kernel_rfl }
def idxRen : Ren := ⟨fun | 143 => 178 | 217 => 236 | 219 => 184 | 224 => 238 | 225 => 237 | 266 => 258 | 267 => 239 | 314 => 259 | n => n, fun | 3 => 3 | 4 => 4 | 5 => 5 | 9 => 9 | 46 => 192 | 51 => 101 | 146 => 253 | n => n, fun | 1 => 2 | n => n⟩
theorem idxLays : Lays.n143 Tryz.prog idxRen :=
 { mixed := by kernel_rfl
   f143 := by kernel_rfl
   f217 := by kernel_rfl
   f219 := by kernel_rfl
   f224 := by kernel_rfl
   f225 := by kernel_rfl
   f266 := by kernel_rfl
   f267 := by kernel_rfl
   f314 := by kernel_rfl
   t3 := by kernel_rfl
   a3 := fun _ => by kernel_rfl
   z3 := fun _ => by kernel_rfl
   v3 := fun _ => by kernel_rfl
   t4 := by kernel_rfl
   a4 := fun _ => by kernel_rfl
   z4 := fun _ => by kernel_rfl
   v4 := fun _ => by kernel_rfl
   t5 := by kernel_rfl
   a5 := fun _ => by kernel_rfl
   z5 := fun _ => by kernel_rfl
   v5 := fun _ => by kernel_rfl
   t9 := by kernel_rfl
   a9 := fun _ => by kernel_rfl
   z9 := fun _ => by kernel_rfl
   v9 := fun _ => by kernel_rfl
   t46 := by kernel_rfl
   a46 := fun _ => by kernel_rfl
   z46 := fun _ => by kernel_rfl
   v46 := fun _ => by kernel_rfl
   t51 := by kernel_rfl
   a51 := fun _ => by kernel_rfl
   z51 := fun _ => by kernel_rfl
   v51 := fun _ => by kernel_rfl
   t146 := by kernel_rfl
   a146 := fun _ => by kernel_rfl
   z146 := fun _ => by kernel_rfl
   v146 := fun _ => by kernel_rfl
   g1 := by kernel_rfl }
def gspRen : Ren := ⟨fun | 138 => 232 | 143 => 178 | 195 => 250 | 197 => 251 | 217 => 236 | 218 => 252 | 219 => 184 | 221 => 179 | 224 => 238 | 225 => 237 | 260 => 265 | 266 => 258 | 267 => 239 | 268 => 231 | 314 => 259 | n => n, fun | 0 => 0 | 3 => 3 | 4 => 4 | 5 => 5 | 9 => 9 | 21 => 21 | 31 => 62 | 46 => 192 | 51 => 101 | 105 => 250 | 119 => 264 | 138 => 266 | 139 => 267 | 146 => 253 | n => n, fun | 1 => 2 | 3 => 6 | 4 => 7 | n => n⟩
theorem gspLays : Lays.n221 Tryz.prog gspRen :=
 { mixed := by kernel_rfl
   f138 := by kernel_rfl
   f143 := by kernel_rfl
   f195 := by kernel_rfl
   f197 := by kernel_rfl
   f217 := by kernel_rfl
   f218 := by kernel_rfl
   f219 := by kernel_rfl
   f221 := by kernel_rfl
   f224 := by kernel_rfl
   f225 := by kernel_rfl
   f260 := by kernel_rfl
   f266 := by kernel_rfl
   f267 := by kernel_rfl
   f268 := by kernel_rfl
   f314 := by kernel_rfl
   t0 := by kernel_rfl
   a0 := fun _ => by kernel_rfl
   z0 := fun _ => by kernel_rfl
   v0 := fun _ => by kernel_rfl
   t3 := by kernel_rfl
   a3 := fun _ => by kernel_rfl
   z3 := fun _ => by kernel_rfl
   v3 := fun _ => by kernel_rfl
   t4 := by kernel_rfl
   a4 := fun _ => by kernel_rfl
   z4 := fun _ => by kernel_rfl
   v4 := fun _ => by kernel_rfl
   t5 := by kernel_rfl
   a5 := fun _ => by kernel_rfl
   z5 := fun _ => by kernel_rfl
   v5 := fun _ => by kernel_rfl
   t9 := by kernel_rfl
   a9 := fun _ => by kernel_rfl
   z9 := fun _ => by kernel_rfl
   v9 := fun _ => by kernel_rfl
   t21 := by kernel_rfl
   a21 := fun _ => by kernel_rfl
   z21 := fun _ => by kernel_rfl
   v21 := fun _ => by kernel_rfl
   t31 := by kernel_rfl
   a31 := fun _ => by kernel_rfl
   z31 := fun _ => by kernel_rfl
   v31 := fun _ => by kernel_rfl
   t46 := by kernel_rfl
   a46 := fun _ => by kernel_rfl
   z46 := fun _ => by kernel_rfl
   v46 := fun _ => by kernel_rfl
   t51 := by kernel_rfl
   a51 := fun _ => by kernel_rfl
   z51 := fun _ => by kernel_rfl
   v51 := fun _ => by kernel_rfl
   t105 := by kernel_rfl
   a105 := fun _ => by kernel_rfl
   z105 := fun _ => by kernel_rfl
   v105 := fun _ => by kernel_rfl
   t119 := by kernel_rfl
   a119 := fun _ => by kernel_rfl
   z119 := fun _ => by kernel_rfl
   t138 := by kernel_rfl
   a138 := fun _ => by kernel_rfl
   z138 := fun _ => by kernel_rfl
   v138 := fun _ => by kernel_rfl
   t139 := by kernel_rfl
   a139 := fun _ => by kernel_rfl
   z139 := fun _ => by kernel_rfl
   v139 := fun _ => by kernel_rfl
   t146 := by kernel_rfl
   a146 := fun _ => by kernel_rfl
   z146 := fun _ => by kernel_rfl
   v146 := fun _ => by kernel_rfl
   g1 := by kernel_rfl
   g3 := by kernel_rfl
   g4 := by kernel_rfl }
theorem countB_one (c : UInt8) (s : ByteArray) : (Lib.countByte s.data.toList c : Int) = Lib.countB s ⟨#[c]⟩ := by
 have key : ∀ (k : Nat) (s : ByteArray), s.size ≤ k → Lib.countByte s.data.toList c = Lib.countB s ⟨#[c]⟩ := fun k => by
  induction k with
  | zero =>
    intro s hs
    have e : s.data.toList = [] := List.eq_nil_of_length_eq_zero (by simpa using hs)
    rw [Lib.countB_miss _ _ (by rw [indexB_one, e]; rfl), e]; rfl
  | succ k ih =>
    intro s hs
    cases h : cutb c s.data.toList with
    | none =>
      rw [Lib.countB_miss _ _ (by rw [indexB_one, h])]
      exact List.count_eq_zero.2 (cutb_no h)
    | some q =>
      obtain ⟨a, r⟩ := q
      obtain ⟨es, hn⟩ := cutb_some h
      have hi : Lib.indexB s ⟨#[c]⟩ = (a.length : Int) := by rw [indexB_one, h]
      have h2 : s.extract (a.length + (⟨#[c]⟩ : ByteArray).size) s.size = tx r := by
       show s.extract (a.length + 1) s.size = _
       rw [ext_drop, es, List.drop_append, List.drop_of_length_le (by omega)]; simp
      have hl : s.size = a.length + 1 + r.length := by rw [← ByteArray.size_data, ← Array.length_toList, es]; simp; omega
      rw [Lib.countB_hit s ⟨#[c]⟩ a.length (Nat.le_refl 1) hi, h2, ← ih (tx r) (by rw [tx_size]; omega), tx_list, es]
      unfold Lib.countByte
      rw [List.count_append, List.count_cons_self, List.count_eq_zero.2 hn]; omega
 exact congrArg Nat.cast (key _ s (Nat.le_refl _))
theorem gsplit_any (s : ByteArray) (c : UInt8) (w : World) (hs : s.size < 4294967281) :
 Calls Tryz.prog 179 #[.string s, .string ⟨#[c]⟩, .int .i64 0, .int .i64 (-1)] w fun e w' => e = .returned (.slice (some ⟨w.heap.size, 0, none⟩) (wdsB c s).length (wdsB c s).length) ∧ w' = w.alloc (.cells ((wdsB c s).map Value.string).toArray 9) := by
 have h := Any.strings_genSplit_core gspLays (by kernel_rfl) s ⟨#[c]⟩ 0 (-1) (Lib.countB s ⟨#[c]⟩ + 1) w hs (Nat.le_refl 1) (Nat.zero_le _)
  (fun x cs hx => (Any.strings_Index_one idxLays x c _).mono fun _ _ ⟨he, hw⟩ => ⟨by rw [he, ixb_cutb, indexB_one]; cases cutb c x.data.toList <;> rfl, hw⟩)
  ((Any.strings_Count_one cntLays s c w).mono fun _ _ ⟨he, hw⟩ => ⟨by rw [he, countB_one], hw⟩) (by decide) (by decide) (by
    rw [if_pos (by decide)]
    have := Lib.countB_le ⟨#[c]⟩ (Nat.le_refl 1) s.size s (Nat.le_refl _)
    omega)
 rw [Nat.add_sub_cancel] at h
 have e1 : Lib.splitB ⟨#[c]⟩ 0 (Lib.countB s ⟨#[c]⟩) s = wdsB c s := rfl
 have e2 : Lib.cellsOf (wdsB c s) (Lib.countB s ⟨#[c]⟩ + 1) = ((wdsB c s).map Value.string).toArray := by rw [← wdsB_len]; exact Lib.cellsOf_full _
 rw [e1, e2, ← wdsB_len] at h
 exact h
theorem split_any (s : ByteArray) (c : UInt8) (w : World) (hs : s.size < 4294967281) :
 Calls Tryz.prog 115 #[.string s, .string ⟨#[c]⟩] w fun e w' => e = .returned (.slice (some ⟨w.heap.size, 0, none⟩) (wdsB c s).length (wdsB c s).length) ∧ w' = w.alloc (.cells ((wdsB c s).map Value.string).toArray 9) := by
 have HG := Lib.hid (gsplit_any s c w hs)
 generalize (wdsB c s).length = n at *
 generalize ((wdsB c s).map Value.string).toArray = A at *
 go_enter Tryz.func115, Tryz.ntmps115
 go_wp2_with (fail)
 refine HG.out.mono ?_
 rintro e w' ⟨rfl, hw⟩
 rw [hw]
 go_wp2_with (fail)
 go_ret
 exact ⟨rfl, rfl⟩
end Go.Proofs.YtimllihegnokeaaGreatDoor.Ov
namespace Go.Proofs.YtimllihegnokeaaGreatDoor.Ov
open Go.ChangeShapes Go.WideShapes Go.ChangeAt Go.RowKit
section
variable {P : Program} {md : Region.Mode} {ops : Array Oper} {Q : Exit → Act → World → Prop}
theorem all_listed (hlt : ∀ (i : Nat) (o : Oper), ops[i]? = some o → ∀ e ∈ o.after, e.on < i) {listed : Array Bool} (hsz : listed.size = ops.size) (hr : Region.ready md ops listed = []) : ∀ i, i < ops.size → listed.getD i false = true := by
 intro i
 induction i using Nat.strongRecOn with
 | ind i ih =>
   intro hi
   cases h : listed.getD i true with
   | true => rw [← h]; simp [Array.getD, hsz, hi]
   | false =>
     have : i ∈ Region.ready md ops listed := mem_ready.2 ⟨h, ops[i], Array.getElem?_eq_getElem hi, fun e he _ => by
      have hl := hlt i ops[i] (Array.getElem?_eq_getElem hi) e he
      exact ih e.on hl (by omega)⟩
     rw [hr] at this; cases this
theorem wpAny_inv (J : Array Bool → Act → World → Prop) (hsz : ∀ listed a w, J listed a w → listed.size = ops.size) (hlt : ∀ (i : Nat) (o : Oper), ops[i]? = some o → ∀ e ∈ o.after, e.on < i)
 (hend : ∀ listed a w, J listed a w → (∀ i, i < ops.size → listed.getD i false = true) → Q .normal a w)
 (hstep : ∀ listed a w i o, J listed a w → ops[i]? = some o → (∀ e ∈ o.after, Region.binds md e = true → listed.getD e.on false = true) → wpOp P ops Q i (J (listed.setIfInBounds i true)) a w) :
 ∀ (n : Nat) (listed : Array Bool) (a : Act) (w : World), J listed a w → listed.toList.count false ≤ n → wpAny P md ops Q n listed a w
 | 0, listed, a, w, hJ, hn => by
   have hall : ∀ i, i < listed.size → listed.getD i true = true := fun i hi => by
    have h0 : listed.toList.count false = 0 := by omega
    rw [List.count_eq_zero] at h0
    have hm : listed[i] ∈ listed.toList := by simp
    cases h : listed[i] with
    | true => simp [Array.getD, hi, h]
    | false => rw [h] at hm; exact absurd hm h0
   have hr : Region.ready md ops listed = [] := by
    cases h : Region.ready md ops listed with
    | nil => rfl
    | cons x t =>
      have hx : x ∈ Region.ready md ops listed := by rw [h]; exact List.mem_cons_self
      obtain ⟨h1, o, ho, _⟩ := mem_ready.1 hx
      have : x < ops.size := (Array.getElem?_eq_some_iff.1 ho).1
      rw [hall x (by rw [hsz _ _ _ hJ]; exact this)] at h1; cases h1
   exact ⟨hr, hend _ _ _ hJ (all_listed hlt (hsz _ _ _ hJ) hr)⟩
 | n + 1, listed, a, w, hJ, hn => by
   refine ⟨fun hr => hend _ _ _ hJ (all_listed hlt (hsz _ _ _ hJ) hr), fun i hi => ?_⟩
   obtain ⟨h1, o, ho, hall⟩ := mem_ready.1 hi
   have hio : i < ops.size := (Array.getElem?_eq_some_iff.1 ho).1
   have hil : i < listed.size := by rw [hsz _ _ _ hJ]; exact hio
   have hli : listed[i] = false := by simpa [Array.getD, hil] using h1
   refine wpOp_mono (fun a' w' hJ' => wpAny_inv J hsz hlt hend hstep n _ a' w' hJ' ?_) (hstep listed a w i o hJ ho hall)
   have hp : 0 < listed.toList.count false := List.count_pos_iff.2 (by rw [← hli]; simp)
   have hl2 : i < listed.toList.length := by simpa using hil
   have e1 : (listed.toList[i] == false) = true := by simp [hli]
   rw [Array.toList_setIfInBounds, List.count_set hl2, if_pos e1, if_neg (by decide)]
   omega
def freeB (ops : Array Oper) (N : Nat) : Bool :=
 (List.range ops.size).all fun i => match ops[i]? with
   | none => false
   | some o => o.guard.isNone && (match o.dst with | none => false | some d => decide (d ≠ 0) && decide (d < N) && (List.range ops.size).all fun j => j == i || ((ops[j]?).map (·.dst)) != some (some d)) && o.after.all fun e => decide (e.on < i)
theorem freeB_at {N : Nat} (h : freeB ops N = true) {i : Nat} {o : Oper} (ho : ops[i]? = some o) :
 o.guard = none ∧ (∃ d, o.dst = some d ∧ d ≠ 0 ∧ d < N ∧ ∀ (j : Nat) (o' : Oper), ops[j]? = some o' → j ≠ i → o'.dst ≠ some d) ∧ ∀ e ∈ o.after, e.on < i := by
 have hi : i < ops.size := (Array.getElem?_eq_some_iff.1 ho).1
 have h1 := List.all_eq_true.1 h i (List.mem_range.2 hi)
 rw [ho] at h1
 simp only [Bool.and_eq_true] at h1
 obtain ⟨⟨h2, h3⟩, h4⟩ := h1
 refine ⟨by simpa using h2, ?_, fun e he => of_decide_eq_true (Array.all_eq_true_iff_forall_mem.1 h4 e he)⟩
 cases hd : o.dst with
 | none => rw [hd] at h3; cases h3
 | some d =>
   rw [hd] at h3
   simp only [Bool.and_eq_true, decide_eq_true_eq] at h3
   obtain ⟨⟨g1, g2⟩, g3⟩ := h3
   refine ⟨d, rfl, g1, g2, fun j o' hj hne e => ?_⟩
   have := List.all_eq_true.1 g3 j (List.mem_range.2 (Array.getElem?_eq_some_iff.1 hj).1)
   rw [hj] at this
   simp [hne, e] at this
structure FreeJ (sp : Nat → Value → World → Prop) (ops : Array Oper) (v0 : Value) (w0 : World) (N : Nat) (listed : Array Bool) (a : Act) (w : World) : Prop where
 size : listed.size = ops.size
 below : Below w0.heap.size w0 w
 in0 : a.eval (.tmp 0) = v0
 defers : a.defers = []
 tmps : a.tmps.size = N
 done : ∀ (j : Nat) (o : Oper) (d : Tmp), ops[j]? = some o → o.dst = some d → listed.getD j false = true → sp j (a.eval (.tmp d)) w
theorem wp_region_free (sp : Nat → Value → World → Prop) (hmono : ∀ j v w w', Below w.heap.size w w' → sp j v w → sp j v w') (hm : P.follows .mixedOrders = true) {N : Nat} (hB : freeB ops N = true) {v0 : Value} {w0 : World}
 (hops : ∀ (i : Nat) (o : Oper), ops[i]? = some o → ∀ (a : Act) (w : World), a.eval (.tmp 0) = v0 → Below w0.heap.size w0 w →
   (∀ e ∈ o.after, Region.binds .any e = true → ∀ (o' : Oper) (d : Tmp), ops[e.on]? = some o' → o'.dst = some d → sp e.on (a.eval (.tmp d)) w) →
   ∀ K : Act → World → Prop, (∀ v w', Below w.heap.size w w' → sp i v w' → K (a.put o.dst v) w') → o.wp P a w K Q)
 (hend : ∀ (a : Act) (w : World), Below w0.heap.size w0 w → a.defers = [] → a.tmps.size = N → (∀ (j : Nat) (o : Oper) (d : Tmp), ops[j]? = some o → o.dst = some d → sp j (a.eval (.tmp d)) w) → Q .normal a w)
 {a0 : Act} (h0 : a0.eval (.tmp 0) = v0) (hdf : a0.defers = []) (hN : a0.tmps.size = N) (id : Nat) : (Code.region id ops true).wp P Q a0 w0 := by
 refine wp_region_any hm (wpAny_inv (FreeJ sp ops v0 w0 N) (fun _ _ _ h => h.size) (fun i o ho => (freeB_at hB ho).2.2) ?_ ?_ _ _ _ _ ⟨by simp, below_drewN (Below.refl _ _) 1, h0, hdf, hN, ?_⟩ ?_)
 · intro listed a w h hall
   exact hend a w h.below h.defers h.tmps fun j o d hj hd => h.done j o d hj hd (hall j (Array.getElem?_eq_some_iff.1 hj).1)
 · intro listed a w i o h ho he
   obtain ⟨hg, ⟨d, hd, hd0, hdN, hdist⟩, -⟩ := freeB_at hB ho
   have hi : i < ops.size := (Array.getElem?_eq_some_iff.1 ho).1
   unfold wpOp
   rw [ho]
   simp only
   rw [if_pos (by unfold Region.wanted; rw [hg])]
   refine Or.inl (hops i o ho a w h.in0 h.below (fun e hem hb o' d' ho' hd' => h.done e.on o' d' ho' hd' (he e hem hb)) _ ?_)
   intro v w' hb hs
   have hev : ∀ t, t ≠ d → (a.put o.dst v).eval (.tmp t) = a.eval (.tmp t) := fun t ht => Act.eval_put fun d' hd' e => by
    rw [hd] at hd'; injection hd' with hd'; injection e with e; exact ht (e.trans hd'.symm)
   refine ⟨by simpa using h.size, Below.next h.below hb, (hev 0 (fun e => hd0 e.symm)).trans h.in0, ?_, ?_, ?_⟩
   · rw [hd]; exact h.defers
   · rw [hd]; show (a.tmps.setIfInBounds d v).size = N; simpa using h.tmps
   · intro j oj dj hj hdj hl
     by_cases hji : j = i
     · subst hji
       rw [ho] at hj; injection hj with hj; subst hj
       rw [hd] at hdj; injection hdj with hdj; subst hdj
       have e : (a.put o.dst v).eval (.tmp d) = v := by
        rw [hd]
        show (a.tmps.setIfInBounds d v).getD d undef = v
        have : d < a.tmps.size := by rw [h.tmps]; exact hdN
        simp [Array.getD, this]
       rw [e]; exact hs
     · rw [getD_set_ne _ (fun e => hji e.symm)] at hl
       rw [hev dj (fun e => hdist j oj hj hji (by rw [hdj, e]))]
       exact hmono _ _ _ _ hb (h.done j oj dj hj hdj hl)
 · intro j o d hj hd hl
   simp [Array.getD] at hl
 · simp
end
end Go.Proofs.YtimllihegnokeaaGreatDoor.Ov
namespace Go.Proofs.YtimllihegnokeaaGreatDoor.Ov
open Go.ChangeShapes Go.WideShapes Go.ChangeAt Go.RowKit Go.Shelf
def joiRen : Ren := ⟨fun | 156 => 25 | 165 => 65 | 166 => 24 | 169 => 32 | 240 => 64 | 241 => 106 | 276 => 105 | 277 => 171 | n => n, fun | 0 => 0 | 3 => 3 | 4 => 4 | 5 => 5 | 9 => 9 | 20 => 20 | 31 => 62 | 37 => 59 | 70 => 58 | 72 => 61 | 75 => 64 | 76 => 65 | 80 => 78 | 127 => 117 | 164 => 166 | n => n, fun n => n⟩
theorem joiLays : Lays.n156 Tryz.prog joiRen :=
 { mixed := by kernel_rfl
   f156 := by kernel_rfl
   f165 := by kernel_rfl
   f166 := by kernel_rfl
   f169 := by kernel_rfl
   f240 := by kernel_rfl
   f241 := by kernel_rfl
   f276 := by kernel_rfl
   f277 := by kernel_rfl
   t0 := by kernel_rfl
   a0 := fun _ => by kernel_rfl
   z0 := fun _ => by kernel_rfl
   v0 := fun _ => by kernel_rfl
   t3 := by kernel_rfl
   a3 := fun _ => by kernel_rfl
   z3 := fun _ => by kernel_rfl
   v3 := fun _ => by kernel_rfl
   t4 := by kernel_rfl
   a4 := fun _ => by kernel_rfl
   z4 := fun _ => by kernel_rfl
   v4 := fun _ => by kernel_rfl
   t9 := by kernel_rfl
   a9 := fun _ => by kernel_rfl
   z9 := fun _ => by kernel_rfl
   v9 := fun _ => by kernel_rfl
   t20 := by kernel_rfl
   a20 := fun _ => by kernel_rfl
   z20 := fun _ => by kernel_rfl
   v20 := fun _ => by kernel_rfl
   t31 := by kernel_rfl
   a31 := fun _ => by kernel_rfl
   z31 := fun _ => by kernel_rfl
   v31 := fun _ => by kernel_rfl
   t37 := by kernel_rfl
   a37 := fun _ => by kernel_rfl
   z37 := fun _ => by kernel_rfl
   v37 := fun _ => by kernel_rfl
   t70 := by kernel_rfl
   a70 := fun _ => by kernel_rfl
   z70 := fun _ => by kernel_rfl
   v70 := fun _ => by kernel_rfl
   t72 := by kernel_rfl
   a72 := fun _ => by kernel_rfl
   z72 := fun _ => by kernel_rfl
   v72 := fun _ => by kernel_rfl
   t75 := by kernel_rfl
   a75 := fun _ => by kernel_rfl
   z75 := fun _ => by kernel_rfl
   v75 := fun _ => by kernel_rfl
   t76 := by kernel_rfl
   a76 := fun _ => by kernel_rfl
   z76 := fun _ => by kernel_rfl
   v76 := fun _ => by kernel_rfl
   t127 := by kernel_rfl
   a127 := fun _ => by kernel_rfl
   z127 := fun _ => by kernel_rfl
   v127 := fun _ => by kernel_rfl
   t164 := by kernel_rfl
   a164 := fun _ => by kernel_rfl
   z164 := fun _ => by kernel_rfl
   v164 := fun _ => by kernel_rfl }
theorem joiExtra : Builder.Extra Tryz.prog joiRen :=
 { sizeBuilder := by kernel_rfl
   liesBuilder := by kernel_rfl
   t5 := by kernel_rfl
   a5 := fun _ => by kernel_rfl
   z5 := fun _ => by kernel_rfl
   v5 := fun _ => by kernel_rfl
   infoByte := by kernel_rfl
   cellsByte := by kernel_rfl
   sizeByte := by kernel_rfl
   neB5 := by decide }
theorem join2_any (bk c : Nat) (a b : ByteArray) (w : World) (h0 : w.cell? ⟨bk, 0, none⟩ = some (.string a)) (h1 : w.cell? ⟨bk, 1, none⟩ = some (.string b)) (hc : 2 ≤ c) (hl : a.size + b.size ≤ 100000000) :
 Calls Tryz.prog 25 #[.slice (some ⟨bk, 0, none⟩) 2 c, .string ⟨#[32]⟩] w (Gives (.string (tx (a.data.toList ++ 32 :: b.data.toList))) w) :=
 (Any.strings_Join joiLays joiExtra bk 0 c [a, b] ⟨#[32]⟩ w (fun j x hx => by
   match j, hx with
   | 0, hx => simp at hx; subst hx; exact h0
   | 1, hx => simp at hx; subst hx; exact h1) (block_lt_of_cell h0) (by simp) hc (by simp [Lib.join]; omega)).mono fun _ _ ⟨he, hb⟩ => ⟨by rw [he]; unfold tx; simp [Lib.join], hb⟩
theorem join3_any (bk c : Nat) (a b d : ByteArray) (w : World) (h0 : w.cell? ⟨bk, 0, none⟩ = some (.string a)) (h1 : w.cell? ⟨bk, 1, none⟩ = some (.string b)) (h2 : w.cell? ⟨bk, 2, none⟩ = some (.string d)) (hc : 3 ≤ c) (hl : a.size + b.size + d.size ≤ 100000000) :
 Calls Tryz.prog 25 #[.slice (some ⟨bk, 0, none⟩) 3 c, .string ⟨#[32]⟩] w (Gives (.string (tx (a.data.toList ++ 32 :: (b.data.toList ++ 32 :: d.data.toList)))) w) :=
 (Any.strings_Join joiLays joiExtra bk 0 c [a, b, d] ⟨#[32]⟩ w (fun j x hx => by
   match j, hx with
   | 0, hx => simp at hx; subst hx; exact h0
   | 1, hx => simp at hx; subst hx; exact h1
   | 2, hx => simp at hx; subst hx; exact h2) (block_lt_of_cell h0) (by simp) hc (by simp [Lib.join]; omega)).mono fun _ _ ⟨he, hb⟩ => ⟨by rw [he]; unfold tx; simp [Lib.join], hb⟩
end Go.Proofs.YtimllihegnokeaaGreatDoor.Ov
namespace Go.Proofs.YtimllihegnokeaaGreatDoor.Jo
open Go.ChangeShapes Go.WideShapes Go.ChangeAt Go.RowKit Ov
def PutQ (B b : Nat) (l : List UInt8) (w : World) (e : Ending) (w' : World) : Prop := e = .returned (.tuple #[]) ∧ BldF B b l w' ∧ Below B w w' ∧ Kept b w w'
theorem put2_any (B b : Nat) (l : List UInt8) (a d : ByteArray) (g c : Nat) (w : World) (h : BldF B b l w) (h0 : w.cell? ⟨g, 0, none⟩ = some (.string a)) (h1 : w.cell? ⟨g, 1, none⟩ = some (.string d)) (hc : 2 ≤ c) (hl : l.length + a.size + d.size ≤ 1000000) (hB : B ≤ w.heap.size) :
 Calls Tryz.prog 23 #[.slice (some ⟨g, 0, none⟩) 2 c, .pointer (some ⟨b, 0, none⟩)] w (PutQ B b (l ++ ((a.data.toList ++ 32 :: d.data.toList) ++ [10])) w) := by
 have HJ := Lib.hid (join2_any g c a d w h0 h1 hc (by omega))
 have HD := Lib.hid h
 have hz : (tx (a.data.toList ++ 32 :: d.data.toList) ++ ⟨#[10]⟩ : ByteArray).data.toList = (a.data.toList ++ 32 :: d.data.toList) ++ [10] := by rw [show (⟨#[10]⟩ : ByteArray) = tx [10] from rfl, tx_append, tx_list]
 have hs : (tx (a.data.toList ++ 32 :: d.data.toList) ++ ⟨#[10]⟩ : ByteArray).size = (a.data.toList ++ 32 :: d.data.toList).length + 1 := by rw [show (⟨#[10]⟩ : ByteArray) = tx [10] from rfl, tx_append, tx_size, List.length_append]; rfl
 have hj : (a.data.toList ++ 32 :: d.data.toList).length = a.size + d.size + 1 := by simp; omega
 have hfit : ¬ 9223372036854775807 < (tx (a.data.toList ++ 32 :: d.data.toList)).size + 1 := by rw [tx_size]; omega
 have HZ := Lib.hid hz; have HS := Lib.hid hs; have HL := Lib.hid hj
 clear h h0 h1 hz hs hj
 generalize (a.data.toList ++ 32 :: d.data.toList) = t at *
 go_enter Tryz.func23, Tryz.ntmps23
 go_wp2_with (fail)
 refine HJ.out.mono ?_
 rintro e w1 ⟨rfl, hb⟩
 have HB := Lib.hid hb
 have HD1 := Lib.hid (HD.out.old hb)
 clear hb
 go_wp2_with (fail)
 refine (writeK_any B b l _ w1 HD1.out (by have := HS.out; have := HL.out; omega) (by have := HB.out.size; omega)).mono ?_
 rintro e w2 ⟨rfl, hd, hb, hk⟩
 rw [HZ.out] at hd
 have HD2 := Lib.hid hd; have HB2 := Lib.hid hb; have HK2 := Lib.hid hk
 clear hd hb hk
 go_wp2_with (fail)
 refine bodyPost_end (results_none rfl _ _ _) rfl ?_
 exact ⟨rfl, HD2.out, (HB.out.mono hB).trans HB2.out, (Kept.of_below HB.out).trans HK2.out⟩
theorem put3_any (B b : Nat) (l : List UInt8) (a d f : ByteArray) (g c : Nat) (w : World) (h : BldF B b l w) (h0 : w.cell? ⟨g, 0, none⟩ = some (.string a)) (h1 : w.cell? ⟨g, 1, none⟩ = some (.string d)) (h2 : w.cell? ⟨g, 2, none⟩ = some (.string f)) (hc : 3 ≤ c) (hl : l.length + a.size + d.size + f.size ≤ 1000000) (hB : B ≤ w.heap.size) :
 Calls Tryz.prog 23 #[.slice (some ⟨g, 0, none⟩) 3 c, .pointer (some ⟨b, 0, none⟩)] w (PutQ B b (l ++ ((a.data.toList ++ 32 :: (d.data.toList ++ 32 :: f.data.toList)) ++ [10])) w) := by
 have HJ := Lib.hid (join3_any g c a d f w h0 h1 h2 hc (by omega))
 have HD := Lib.hid h
 have hz : (tx (a.data.toList ++ 32 :: (d.data.toList ++ 32 :: f.data.toList)) ++ ⟨#[10]⟩ : ByteArray).data.toList = (a.data.toList ++ 32 :: (d.data.toList ++ 32 :: f.data.toList)) ++ [10] := by rw [show (⟨#[10]⟩ : ByteArray) = tx [10] from rfl, tx_append, tx_list]
 have hs : (tx (a.data.toList ++ 32 :: (d.data.toList ++ 32 :: f.data.toList)) ++ ⟨#[10]⟩ : ByteArray).size = (a.data.toList ++ 32 :: (d.data.toList ++ 32 :: f.data.toList)).length + 1 := by rw [show (⟨#[10]⟩ : ByteArray) = tx [10] from rfl, tx_append, tx_size, List.length_append]; rfl
 have hj : (a.data.toList ++ 32 :: (d.data.toList ++ 32 :: f.data.toList)).length = a.size + d.size + f.size + 2 := by simp; omega
 have hfit : ¬ 9223372036854775807 < (tx (a.data.toList ++ 32 :: (d.data.toList ++ 32 :: f.data.toList))).size + 1 := by rw [tx_size]; omega
 have HZ := Lib.hid hz; have HS := Lib.hid hs; have HL := Lib.hid hj
 clear h h0 h1 h2 hz hs hj
 generalize (a.data.toList ++ 32 :: (d.data.toList ++ 32 :: f.data.toList)) = t at *
 go_enter Tryz.func23, Tryz.ntmps23
 go_wp2_with (fail)
 refine HJ.out.mono ?_
 rintro e w1 ⟨rfl, hb⟩
 have HB := Lib.hid hb
 have HD1 := Lib.hid (HD.out.old hb)
 clear hb
 go_wp2_with (fail)
 refine (writeK_any B b l _ w1 HD1.out (by have := HS.out; have := HL.out; omega) (by have := HB.out.size; omega)).mono ?_
 rintro e w2 ⟨rfl, hd, hb, hk⟩
 rw [HZ.out] at hd
 have HD2 := Lib.hid hd; have HB2 := Lib.hid hb; have HK2 := Lib.hid hk
 clear hd hb hk
 go_wp2_with (fail)
 refine bodyPost_end (results_none rfl _ _ _) rfl ?_
 exact ⟨rfl, HD2.out, (HB.out.mono hB).trans HB2.out, (Kept.of_below HB.out).trans HK2.out⟩
theorem BldF.store {B b q : Nat} {l : List UInt8} {w : World} (h : BldF B b l w) (hq : q ≠ b) {cs : Array Value} {t : TypeId} {fz : Nat × Nat} (ht : t ≠ 5) (hc : w.heap[q]? = some (.cells cs t fz)) (v : Value) : BldF B b l (w.setCell ⟨q, 0, none⟩ v) := by
 have key : ∀ p, Lib.BuilderAtF 61 5 B b p (Lib.byteCells l) w → Lib.BuilderAtF 61 5 B b p (Lib.byteCells l) (w.setCell ⟨q, 0, none⟩ v) := fun p h => by
  obtain ⟨hB, u, hb, hown, hne⟩ := h
  have hg : w.grownBy (w.setCell ⟨q, 0, none⟩ v) (some q) := ⟨rfl, rfl, rfl, by simp, fun k _ hk => Below.heap_setCell _ _ _ _ (fun e => hk (by rw [e]))⟩
  refine ⟨hB, u, by rw [Below.heap_setCell _ _ _ _ hq.symm]; exact hb, hown.kept (row := some q) hg ?_, hne⟩
  rcases hown.2 with ⟨rfl, _⟩ | ⟨g, cap, cur, fz', rfl, _, hgg, _⟩
  · exact Or.inl rfl
  · refine Or.inr fun e => ?_
    have e2 : g = q := by simpa [Value.ownBlock] using e
    subst e2
    rw [hc] at hgg; injection hgg with hgg; injection hgg with _ h2 _; exact ht h2
 exact h.elim (fun h => Or.inl (key _ h)) (fun h => Or.inr (key _ h))
structure Wr (b : Nat) (l : List UInt8) (x : Int) (w : World) : Prop where
 bl : BldF b b l w
 ft : w.heap[b + 1]? = some (.cells #[.int .i64 x] 27 (0, 0))
 fn : w.heap[b + 1 + 1]? = some (.cells #[.func (.func 23) #[] #[.pointer (some ⟨b, 0, none⟩)]] 68 (0, 0))
section
variable {b : Nat} {l l' : List UInt8} {x : Int} {w w' : World}
theorem Wr.lt (h : Wr b l x w) : b + 1 + 1 < w.heap.size := (Array.getElem?_eq_some_iff.1 h.fn).1
theorem Wr.next (h : Wr b l x w) (k : Below w.heap.size w w') : Wr b l x w' := ⟨h.bl.old k, by rw [k.block _ (by have := h.lt; omega)]; exact h.ft, by rw [k.block _ h.lt]; exact h.fn⟩
theorem Wr.put (h : Wr b l x w) (hb : BldF b b l' w') (k : Kept b w w') : Wr b l' x w' :=
 ⟨hb, k _ _ h.ft (by simp) (fun c fz e => by injection e with _ e _; exact absurd e (by decide)), k _ _ h.fn (by simp; omega) (fun c fz e => by injection e with _ e _; exact absurd e (by decide))⟩
theorem Wr.fault (h : Wr b l x w) : w.cell? ⟨b + 1, 0, none⟩ = some (.int .i64 x) := by unfold World.cell?; rw [h.ft]; rfl
theorem Wr.func (h : Wr b l x w) : w.cell? ⟨b + 1 + 1, 0, none⟩ = some (.func (.func 23) #[] #[.pointer (some ⟨b, 0, none⟩)]) := by unfold World.cell?; rw [h.fn]; rfl
theorem Wr.thaw (h : Wr b l x w) : w.frozen? ⟨b + 1, 0, none⟩ = false := by unfold World.frozen?; rw [h.ft]; rfl
theorem Wr.setx (h : Wr b l x w) (y : Int) : Wr b l y (w.setCell ⟨b + 1, 0, none⟩ (.int .i64 y)) :=
 ⟨BldF.store h.bl (by omega) (by decide) h.ft _, by
  rw [heap_setCell_same _ _ _ _ _ _ h.ft]; rfl, by rw [Below.heap_setCell _ _ _ _ (show b + 1 + 1 ≠ b + 1 by omega)]; exact h.fn⟩
end
theorem putw2 {b : Nat} {l : List UInt8} {x : Int} (a d : ByteArray) {w : World} (h : Wr b l x w) (hl : l.length + a.size + d.size ≤ 1000000) :
 Calls Tryz.prog 23 #[.slice (some ⟨w.heap.size, 0, none⟩) 2 2, .pointer (some ⟨b, 0, none⟩)] (w.alloc (.cells #[.string a, .string d] 9)) (fun e w' => e = .returned (.tuple #[]) ∧ Wr b (l ++ ((a.data.toList ++ 32 :: d.data.toList) ++ [10])) x w' ∧ Below b w w') := by
 have hk := box1 w (.cells #[.string a, .string d] 9)
 have hd := Blk.made w 9 [.string a, .string d] rfl
 have hb : b ≤ w.heap.size := by have := h.lt; omega
 refine (put2_any b b l a d w.heap.size 2 _ (h.bl.old hk) (hd.c 0 _ rfl) (hd.c 1 _ rfl) (Nat.le_refl _) hl (by simp; omega)).mono ?_
 rintro e w' ⟨rfl, h1, h2, h3⟩
 exact ⟨rfl, (h.next hk).put h1 h3, (hk.mono hb).trans h2⟩
theorem putw3 {b : Nat} {l : List UInt8} {x : Int} (a d f : ByteArray) {w : World} (h : Wr b l x w) (hl : l.length + a.size + d.size + f.size ≤ 1000000) :
 Calls Tryz.prog 23 #[.slice (some ⟨w.heap.size, 0, none⟩) 3 3, .pointer (some ⟨b, 0, none⟩)] (w.alloc (.cells #[.string a, .string d, .string f] 9)) (fun e w' => e = .returned (.tuple #[]) ∧ Wr b (l ++ ((a.data.toList ++ 32 :: (d.data.toList ++ 32 :: f.data.toList)) ++ [10])) x w' ∧ Below b w w') := by
 have hk := box1 w (.cells #[.string a, .string d, .string f] 9)
 have hd := Blk.made w 9 [.string a, .string d, .string f] rfl
 have hb : b ≤ w.heap.size := by have := h.lt; omega
 refine (put3_any b b l a d f w.heap.size 3 _ (h.bl.old hk) (hd.c 0 _ rfl) (hd.c 1 _ rfl) (hd.c 2 _ rfl) (Nat.le_refl _) hl (by simp; omega)).mono ?_
 rintro e w' ⟨rfl, h1, h2, h3⟩
 exact ⟨rfl, (h.next hk).put h1 h3, (hk.mono hb).trans h2⟩
end Go.Proofs.YtimllihegnokeaaGreatDoor.Jo

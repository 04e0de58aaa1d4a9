/-
  A text of this claim: CrTable.
-/
import Derived.Test.YtchmepalhldpcaaGreatDoorQ1
import Derived.Deep.WholeRow
namespace Go.Proofs.YtchmepalhldpcaaGreatDoor.Cr
open Go.ChangeShapes Go.WideShapes Go.ChangeAt Go.RowKit Ov
set_option maxHeartbeats 400000 in
theorem halve_any (n : Nat) (hn : n < 4294967296) (w : World) :
 Calls Tryz.prog 127 #[.int .u32 (n : Int)] w fun e w' => e = .returned (.int .u32 (hv n : Nat)) ∧ w' = w := by
 have e1 := bits_and1_u32 n hn
 have HX := Lib.hid (bits_xor_u32 (n / 2) 3988292384 (by omega) (by omega))
 by_cases h : n % 2 = 1
 · have HV : Hid (hv n = n / 2 ^^^ 3988292384) := if_pos h
   have e2 : bits .and .u32 (n : Int) 1 = 1 := by rw [e1, h]; rfl
   clear e1
   go_enter Tryz.func127, Tryz.ntmps127
   go_wp2
   go_ret
   refine ⟨ret_int ?_, rfl⟩
   rw [HV.out, ← HX.out]; rfl
 · have HV : Hid (hv n = n / 2) := if_neg h
   have e2 : bits .and .u32 (n : Int) 1 = 0 := by rw [e1, show n % 2 = 0 by omega]; rfl
   clear e1
   go_enter Tryz.func127, Tryz.ntmps127
   go_wp2
   go_ret
   refine ⟨ret_int ?_, rfl⟩
   rw [HV.out]; rfl
def TA (g : Nat → Nat) : Array Value := ((List.range 256).map fun i => Value.int .u32 (g i : Int)).toArray
theorem TA_size (g : Nat → Nat) : (TA g).size = 256 := by simp [TA]
theorem TA_get (g : Nat → Nat) (i : Nat) (h : i < 256) : (TA g)[i]? = some (.int .u32 (g i : Int)) := by simp [TA, h]
theorem TA_congr {g k : Nat → Nat} (h : ∀ i, i < 256 → g i = k i) : TA g = TA k := by
 unfold TA; congr 1; exact List.map_congr_left fun i hi => by rw [h i (by simpa using hi)]
theorem TA_set (g : Nat → Nat) (i v : Nat) (h : i < 256) : (TA g).setIfInBounds i (.int .u32 (v : Int)) = TA (fun j => if j = i then v else g j) := by
 apply Array.ext_getElem?
 intro j
 by_cases hj : j < 256
 · rw [TA_get _ j hj]
   by_cases e : j = i
   · subst e; rw [Array.getElem?_setIfInBounds_self_of_lt (by rw [TA_size]; exact hj), if_pos rfl]
   · rw [Array.getElem?_setIfInBounds_ne (by omega), TA_get _ j hj, if_neg e]
 · rw [Array.getElem?_eq_none (by rw [Array.size_setIfInBounds, TA_size]; omega), Array.getElem?_eq_none (by rw [TA_size]; omega)]
theorem zeroT (w : World) : Sem.run Tryz.prog (zeroValue 164) w = .ok (.agg (TA fun _ => 0)) w := by kernel_rfl
def G (b j i : Nat) : Nat := if i % b = 0 ∧ (i % (2 * b) = 0 ∨ i < b + 2 * b * j) then hs 8 i else 0
theorem eight {r : Nat} {C : Nat → Prop} (h : r < 8) (h0 : C 1) (h1 : C 2) (h2 : C 4) (h3 : C 8) (h4 : C 16) (h5 : C 32) (h6 : C 64) (h7 : C 128) : C (2 ^ r) := by
 match r, h with
 | 0, _ => exact h0
 | 1, _ => exact h1
 | 2, _ => exact h2
 | 3, _ => exact h3
 | 4, _ => exact h4
 | 5, _ => exact h5
 | 6, _ => exact h6
 | 7, _ => exact h7
theorem G_start (i : Nat) (h : i < 256) : 0 = G 128 0 i := by
 unfold G
 split
 · obtain rfl : i = 0 := by omega
   exact (hs0 8).symm
 · rfl
theorem G_at {r j : Nat} (hr : r < 8) : ∀ i, i < 256 → i + 2 ^ r = 2 ^ r + 2 * 2 ^ r * j → G (2 ^ r) j i = hs 8 i := by
 refine eight (C := fun b => ∀ i, i < 256 → i + b = b + 2 * b * j → G b j i = hs 8 i) hr ?_ ?_ ?_ ?_ ?_ ?_ ?_ ?_ <;>
 · intro i hi e
   exact if_pos ⟨by omega, .inl (by omega)⟩
theorem G_step {r j : Nat} (hr : r < 8) : ∀ i, i < 256 → (if i = 2 ^ r + 2 * 2 ^ r * j then hs 8 (2 ^ r + 2 * 2 ^ r * j) else G (2 ^ r) j i) = G (2 ^ r) (j + 1) i := by
 refine eight (C := fun b => ∀ i, i < 256 → (if i = b + 2 * b * j then hs 8 (b + 2 * b * j) else G b j i) = G b (j + 1) i) hr ?_ ?_ ?_ ?_ ?_ ?_ ?_ ?_ <;>
 · intro i hi
   unfold G
   split
   · rename_i e; rw [if_pos (by omega), e]
   · rename_i e
     split
     · rename_i h; rw [if_pos (by omega)]
     · rename_i h; rw [if_neg (by omega)]
theorem G_next {r j : Nat} (hr : r < 7) (hj : 256 ≤ 2 ^ (r + 1) + 2 * 2 ^ (r + 1) * j) : ∀ i, i < 256 → G (2 ^ (r + 1)) j i = G (2 ^ r) 0 i := by
 rw [Nat.pow_succ] at hj ⊢
 revert hj
 refine eight (C := fun b => 256 ≤ b * 2 + 2 * (b * 2) * j → ∀ i, i < 256 → G (b * 2) j i = G b 0 i) (by omega) ?_ ?_ ?_ ?_ ?_ ?_ ?_ ?_ <;>
 · intro hj i hi
   unfold G
   split
   · rename_i h; rw [if_pos (by omega)]
   · rename_i h; rw [if_neg (by omega)]
theorem G_done {j : Nat} (hj : 256 ≤ 1 + 2 * 1 * j) (i : Nat) (hi : i < 256) : G 1 j i = hs 8 i := if_pos (by omega)
theorem place_xor {r j : Nat} (hr : r < 8) (h : 2 ^ r + 2 * 2 ^ r * j < 256) : hs 8 (2 * 2 ^ r * j) ^^^ hs 8 (2 ^ r) = hs 8 (2 ^ r + 2 * 2 ^ r * j) := by
 rw [← hs_xor]
 congr 1
 have key : ∀ r, r < 8 → ∀ j, j < 128 → 2 ^ r + 2 * 2 ^ r * j < 256 → (2 * 2 ^ r * j) ^^^ (2 ^ r) = 2 ^ r + 2 * 2 ^ r * j := by decide +kernel
 refine key r hr j ?_ h
 have h1 : 1 ≤ 2 ^ r := Nat.one_le_two_pow
 generalize 2 ^ r = b at h h1
 have : 1 * j ≤ b * j := Nat.mul_le_mul_right _ h1
 have e : 2 * b * j = 2 * (b * j) := Nat.mul_assoc _ _ _
 omega
theorem hs8_half {r : Nat} (hr : r < 7) : hv (hs 8 (2 ^ (r + 1))) = hs 8 (2 ^ r) := by
 have key : ∀ r, r < 7 → hv (hs 8 (2 ^ (r + 1))) = hs 8 (2 ^ r) := by decide +kernel
 exact key r hr
theorem hs8_top : hv 1 = hs 8 128 := by decide +kernel
def TW (w : World) (g : Nat → Nat) : World := (w.alloc (.cells (TA fun _ => 0) 164)).alloc (.cells (TA g) 164)
theorem TW_at (w : World) (g : Nat → Nat) (i : Nat) (h : i < 256) : (TW w g).cell? ⟨w.heap.size + 1, i, none⟩ = some (.int .u32 (g i : Int)) := by
 unfold TW
 rw [World.cell?_alloc_at _ _ _ _ (by simp)]; exact TA_get g i h
theorem TW_set (w : World) (g : Nat → Nat) (i v : Nat) (h : i < 256) : (TW w g).setCell ⟨w.heap.size + 1, i, none⟩ (.int .u32 (v : Int)) = TW w (fun j => if j = i then v else g j) := by
 unfold TW
 rw [← TA_set g i v h, World.setCell_alloc_at _ _ _ _ _ (by simp)]
theorem TW_congr (w : World) {g k : Nat → Nat} (h : ∀ i, i < 256 → g i = k i) : TW w g = TW w k := by unfold TW; rw [TA_congr h]
theorem TW_below (w : World) (g : Nat → Nat) : Below w.heap.size w (TW w g) := ((Below.refl _ _).alloc (Nat.le_refl _) _).alloc (by simp) _
theorem TW_frozen (w : World) (g : Nat → Nat) (i : Nat) : (TW w g).frozen? ⟨w.heap.size + 1, i, none⟩ = false := by
 unfold TW; simp
theorem T_round {w : World} {r b j q : Nat} (hb : b = 2 ^ r) (hr : r < 8) (hq : q = 2 * b * j) (hlt : q + b < 256) :
 (TW w (G b j)).setCell ⟨w.heap.size + 1, q + b, none⟩ (.int .u32 (bits .xor .u32 (G b j q : Int) (hs 8 b : Int))) = TW w (G b (j + 1)) := by
 subst hq
 have h1 : b < 256 := by omega
 have h2 : 2 * b * j < 256 := by omega
 have h3 : b + 2 * b * j < 256 := by omega
 subst hb
 rw [G_at hr _ h2 (Nat.add_comm _ _), bits_xor_u32 _ _ (hs_lt 8 (Nat.lt_trans h2 (by decide))) (hs_lt 8 (Nat.lt_trans h1 (by decide))), place_xor hr h3, TW_set _ _ _ _ hlt]
 exact TW_congr w fun i hi => by rw [← G_step hr i hi, Nat.add_comm (2 * 2 ^ r * j) (2 ^ r)]
theorem T_next {w : World} {r b j q : Nat} (hb : b = 2 ^ (r + 1)) (hr : r < 7) (hq : q = 2 * b * j) (hge : ¬ q + b < 256) : TW w (G b j) = TW w (G (b / 2) 0) := by
 subst hb; subst hq
 rw [show 2 ^ (r + 1) / 2 = 2 ^ r by rw [Nat.pow_succ]; simp]
 exact TW_congr w (G_next hr (by omega))
theorem T_half {r b : Nat} (hb : b = 2 ^ (r + 1)) (hr : r < 7) : hv (hs 8 b) = hs 8 (b / 2) := by
 subst hb
 rw [show 2 ^ (r + 1) / 2 = 2 ^ r by rw [Nat.pow_succ]; simp]
 exact hs8_half hr
theorem T_done {w : World} {j q : Nat} (hq : q = 2 * 1 * j) (hge : ¬ q + 1 < 256) : TW w (G 1 j) = TW w (hs 8) := TW_congr w (G_done (by omega))
theorem pow_half {r b : Nat} (hb : b = 2 ^ r) (h : r ≠ 0) : b / 2 = 2 ^ (r - 1) := by
 obtain ⟨r, rfl⟩ : ∃ s, r = s + 1 := ⟨r - 1, by omega⟩
 rw [hb, Nat.pow_succ]; simp
theorem TA_info (g : Nat → Nat) : (Tryz.prog.info? 164).map (·.size) = some (TA g).size := by
 rw [TA_size]; kernel_rfl
theorem TA_one (g : Nat → Nat) : (TA g).all (·.oneCell') = true := by
 rw [Array.all_eq_true_iff_forall_mem]
 intro v hv
 simp [TA] at hv
 obtain ⟨i, _, rfl⟩ := hv
 rfl
theorem TW_heap1 (w : World) (g : Nat → Nat) : (TW w g).heap[w.heap.size + 1]? = some (.cells (TA g) 164) := by
 have h := heap_alloc_last (w.alloc (.cells (TA fun _ => 0) 164)) (.cells (TA g) 164)
 have e : (w.alloc (.cells (TA fun _ => 0) 164)).heap.size = w.heap.size + 1 := by simp
 rw [e] at h
 exact h
theorem TW_heap0 (w : World) (g : Nat → Nat) : (TW w g).heap[w.heap.size]? = some (.cells (TA fun _ => 0) 164) := by
 have := heap_alloc_last w (.cells (TA fun _ => 0) 164)
 rw [← this]
 exact ((Below.refl _ (w.alloc (.cells (TA fun _ => 0) 164))).alloc (Nat.le_refl _) _).block _ (by simp)
theorem run_store_cells {P : Program} (w : World) (g : Nat) (t : TypeId) (c c' : Array Value) (hg : w.heap[g]? = some (.cells c t (0, 0))) (hi : (P.info? t).map (·.size) = some c'.size) (ho : c.size = c'.size) (h1 : c'.all (·.oneCell') = true) :
 (storeCells ⟨g, 0, none⟩ c'.toList 0).run P w = .ok () (w.setRow g c') := by
 have := run_storeVar_row (P := P) w g t t c c' hg hi ho h1
 cases hq : P.info? t with
 | none => simp [hq] at hi
 | some i =>
   have hs : c'.size = i.size := by simp [hq] at hi; omega
   simpa [storeVar, sizeOf, typeInfo, hq, Value.cells, hs] using this
theorem store_cells (w : World) (g : Nat → Nat) : (storeCells ⟨w.heap.size, 0, none⟩ (TA g).toList).run Tryz.prog (TW w g) = .ok () ((TW w g).setRow w.heap.size (TA g)) :=
 run_store_cells _ _ 164 (TA fun _ => 0) _ (TW_heap0 w g) (TA_info g) (by rw [TA_size, TA_size]) (TA_one g)
def RelT (w : World) (b : Nat) (I : Value) (wr : World) : Prop := ∃ j q : Nat, q = 2 * b * j ∧ q + b ≤ 512 ∧ I = .int .i64 ((q : Int) + (b : Int)) ∧ wr = TW w (G b j)
def J (w : World) (a' : Act) (w' : World) : Prop := ∃ (r b : Nat) (u4 u5 u6 u7 u8 u9 u10 u11 u12 u13 u14 u15 u16 u17 u18 u19 u20 u21 u22 u23 u24 u25 u26 u27 u28 : Value), r < 7 ∧ b = 2 ^ r ∧ w' = TW w (G b 0) ∧
 a' = { tmps := #[.pointer (some ⟨w.heap.size, 0, none⟩), .pointer (some ⟨w.heap.size + 1, 0, none⟩), .int .i64 (b : Int), .int .u32 (hs 8 b : Nat), u4, u5, u6, u7, u8, u9, u10, u11, u12, u13, u14, u15, u16, u17, u18, u19, u20, u21, u22, u23, u24, u25, u26, u27, u28], defers := [] }
def mu (a : Act) (_ : World) : Nat := (intOf (a.tmps.getD 2 undef)).toNat
set_option maxRecDepth 1000000 in
set_option maxHeartbeats 4000000 in
theorem table_any (w : World) :
 Calls Tryz.prog 118 #[] w fun e w' => e = .returned (.agg (TA (hs 8))) ∧ Below w.heap.size w w' := by
 have hz := zeroT
 go_enter Tryz.func118, Tryz.ntmps118
 go_wp2
 refine wp_scope_jumps 0 (J w) mu rfl ?_ ?_
 · go_wp2_with (fail)
   refine (halve_any 1 (by omega) _).mono ?_
   rintro e w' ⟨rfl, rfl⟩
   rw [hs8_top]
   go_wp2_with (fail)
   go_step3
   go_wp2_with (fail)
   clear hz
   generalize hb : (128 : Int) = B
   obtain ⟨b, rfl, hb'⟩ : ∃ b : Nat, (b : Int) = B ∧ b = 2 ^ 7 := ⟨128, hb, rfl⟩
   clear hb
   have e128 : hs 8 128 = hs 8 b := by rw [hb']
   have hW : (w.alloc (.cells (TA fun _ => 0) 164)).alloc (.cells (TA fun _ => 0) 164) = TW w (G b 0) := by
    rw [hb']; exact TW_congr w G_start
   rw [hW, e128]
   have HB : Hid (b = 2 ^ 7) := hb'
   have HR : Hid (7 < 8) := Lib.hid (by decide)
   have h1 : 1 ≤ b := by rw [hb']; decide
   have h2 : b ≤ 128 := by rw [hb']; decide
   have hlt := hs_lt 8 (show b < 4294967296 by omega)
   clear hb' hW e128
   go_loopw [4] (fun I wr => RelT w b I wr) (fun I _ => 512 - (intOf I).toNat)
   case atStart => exact ⟨0, 0, by simp, by omega, by simp, rfl⟩
   case round =>
    obtain ⟨j, q, hq, hp, rfl, rfl⟩ := hrel
    have HQ := Lib.hid hq; clear hq
    by_cases hlt : q + b < 256
    · have c1 := TW_at w (G b j) q (by omega)
      have c2 := TW_at w (G b j) (q + b) (by omega)
      have f2 := TW_frozen w (G b j) (q + b)
      have HS : Hid ((TW w (G b j)).setCell ⟨w.heap.size + 1, q + b, none⟩ (.int .u32 (bits .xor .u32 (G b j q : Int) (hs 8 b : Int))) = TW w (G b (j + 1))) := T_round HB.out HR.out HQ.out hlt
      generalize TW w (G b j) = wt at *
      go_wp2_with (fail)
      go_roundw
      case rel => exact ⟨j + 1, q + 2 * b, by rw [HQ.out, Nat.mul_succ], by omega, by go_num, HS.out⟩
      case measure => simp [intOf]; omega
    · have HN : Hid (TW w (G b j) = TW w (G (b / 2) 0)) := T_next (r := 6) HB.out (by decide) HQ.out hlt
      have HH : Hid (hv (hs 8 b) = hs 8 (b / 2)) := T_half (r := 6) HB.out (by decide)
      have hd : 0 < b / 2 := by rw [HB.out]; decide
      have hd' : (0 : Int) < (b : Int) / 2 := by omega
      have HB2 : Hid (b / 2 = 2 ^ 6) := by show _ = _; rw [HB.out]
      go_wp2_with (fail)
      refine (halve_any (hs 8 b) (by assumption) _).mono ?_
      rintro e w' ⟨rfl, rfl⟩
      go_wp2_with (fail)
      go_step3
      refine ⟨rfl, 6, b / 2, _, _, _, _, _, _, _, _, _, _, _, _, _, _, _, _, _, _, _, _, _, _, _, _, _, by decide, HB2.out, HN.out, by rw [HH.out]; rfl⟩
 · clear hz
   rintro a' w' ⟨r, b, u4, u5, u6, u7, u8, u9, u10, u11, u12, u13, u14, u15, u16, u17, u18, u19, u20, u21, u22, u23, u24, u25, u26, u27, u28, hr, hb', rfl, rfl⟩
   have HB := Lib.hid hb'
   have HR : Hid (r < 8) := by show r < 8; omega
   have h1 : 1 ≤ b := by rw [hb']; exact Nat.one_le_two_pow
   have h2 : b ≤ 128 := by rw [hb']; exact Nat.pow_le_pow_right (show 0 < 2 by decide) (show r ≤ 7 by omega)
   have hlt := hs_lt 8 (show b < 4294967296 by omega)
   clear hb'
   go_wp2_with (fail)
   go_loopw [4] (fun I wr => RelT w b I wr) (fun I _ => 512 - (intOf I).toNat)
   case atStart => exact ⟨0, 0, by simp, by omega, by simp, rfl⟩
   case round =>
    obtain ⟨j, q, hq, hp, rfl, rfl⟩ := hrel
    have HQ := Lib.hid hq; clear hq
    by_cases hlt : q + b < 256
    · have c1 := TW_at w (G b j) q (by omega)
      have c2 := TW_at w (G b j) (q + b) (by omega)
      have f2 := TW_frozen w (G b j) (q + b)
      have HS : Hid ((TW w (G b j)).setCell ⟨w.heap.size + 1, q + b, none⟩ (.int .u32 (bits .xor .u32 (G b j q : Int) (hs 8 b : Int))) = TW w (G b (j + 1))) := T_round HB.out HR.out HQ.out hlt
      generalize TW w (G b j) = wt at *
      go_wp2_with (fail)
      go_roundw
      case rel => exact ⟨j + 1, q + 2 * b, by rw [HQ.out, Nat.mul_succ], by omega, by go_num, HS.out⟩
      case measure => simp [intOf]; omega
    · by_cases h0 : r = 0
      · go_wp2_with (fail)
        refine (halve_any (hs 8 b) (by assumption) _).mono ?_
        rintro e w' ⟨rfl, rfl⟩
        obtain rfl : b = 1 := by rw [HB.out, h0]
        have HT : Hid (TW w (G 1 j) = TW w (hs 8)) := T_done HQ.out hlt
        go_wp2_with (fail)
        rw [HT.out]
        have hst := store_cells w (hs 8)
        refine wp_load_row 164 (.tmp 1) rfl (w.heap.size + 1) (by simp [Act.eval]) 164 (TA (hs 8)) (0, 0) _ (TW_heap1 w (hs 8)) Tryz.underlying164 rfl (TA_info _) ?_
        go_wp2_with (fail)
        simp only [Exit.jump]
        refine bodyPost_ret (v := .agg (TA (hs 8))) (results_cell_row rfl _ _ w.heap.size 164 (TA (hs 8)) (0, 0) _ rfl (setRow_heap _ _ _ _ _ _ (TW_heap0 w _)) Tryz.underlying164 rfl (TA_info _)) rfl ⟨rfl, below_setRow (TW_below w _) (Nat.le_refl _) _⟩
      · have hb1 : 2 ≤ b := by
         rw [HB.out]; exact Nat.pow_le_pow_right (show 0 < 2 by decide) (show 1 ≤ r by omega)
        have HN : Hid (TW w (G b j) = TW w (G (b / 2) 0)) := T_next (r := r - 1) (by rw [HB.out]; congr 1; omega) (by omega) HQ.out hlt
        have HH : Hid (hv (hs 8 b) = hs 8 (b / 2)) := T_half (r := r - 1) (by rw [HB.out]; congr 1; omega) (by omega)
        have HB2 : Hid (b / 2 = 2 ^ (r - 1)) := pow_half HB.out h0
        have hd : 0 < b / 2 := by omega
        have hd' : (0 : Int) < (b : Int) / 2 := by omega
        go_wp2_with (fail)
        refine (halve_any (hs 8 b) (by assumption) _).mono ?_
        rintro e w' ⟨rfl, rfl⟩
        go_wp2_with (fail)
        go_step3
        refine ⟨rfl, ⟨r - 1, b / 2, _, _, _, _, _, _, _, _, _, _, _, _, _, _, _, _, _, _, _, _, _, _, _, _, _, by omega, HB2.out, HN.out, by rw [HH.out]; rfl⟩, ?_⟩
        simp [mu, intOf]; omega
end Go.Proofs.YtchmepalhldpcaaGreatDoor.Cr

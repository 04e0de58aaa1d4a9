/-
  Small texts of this claim, together: CrMore, CrSeal, FrFrame, CrRef, CrAwake, CrLaws, FrOpen, FrLaw, FrPut, FrMem, FrGot, DkNames, FrScan, FrSpM, FrMine, FrDrop, FrHeld, FrHold, FrRef, FrNum.
-/
import Derived.Test.YtchmepalhldpcaaGreatDoorQCrTable
import Derived.Test.YtchmepalhldpcaaGreatDoorQ1
import Derived.Test.YtchmepalhldpcaaGreatDoorQFrNamed
import Derived.Test.YtchmepalhldpcaaGreatDoorQDkWrite
import Derived.Test.YtchmepalhldpcaaGreatDoorQ2
import Derived.Test.YtchmepalhldpcaaGreatDoorQFrCmp
import Derived.Lib.OwnBridge
import Derived.Deep.Heap
import Derived.Deep.Onto
import Derived.Deep.CutRange
namespace Go.Proofs.YtchmepalhldpcaaGreatDoor.Cr
open Go.ChangeShapes Go.WideShapes Go.ChangeAt Go.RowKit Ov
def MW (w : World) : World := w.alloc (.cells (TA (hs 8)) 164)
theorem MW_at (w : World) (i : Nat) (h : i < 256) : (MW w).cell? ⟨w.heap.size, i, none⟩ = some (.int .u32 (hs 8 i : Int)) := by
 unfold MW
 rw [World.cell?_alloc_at _ _ _ _ rfl]; exact TA_get _ i h
theorem MW_store (w : World) : (storeCells ⟨w.heap.size, 0, none⟩ (TA (hs 8)).toList).run Tryz.prog (w.alloc (.cells (TA fun _ => 0) 164)) = .ok () (MW w) :=
 run_storeCells_new w 164 _ _ (TA_info _) (by rw [TA_size, TA_size]) (TA_one _)
theorem MW_below {w w1 : World} (h : Below w.heap.size w w1) : Below w.heap.size w (MW w1) := h.alloc h.size _
theorem st_bits (n : Nat) (b : UInt8) (hn : n < 4294967296) : bits .xor .u32 ((n / 256 : Nat) : Int) ((hs 8 (n % 256 ^^^ b.toNat) : Nat) : Int) = (st n b : Nat) := by
 have h8 : n % 256 ^^^ b.toNat < 256 := Nat.xor_lt_two_pow (n := 8) (by omega) b.toNat_lt
 rw [bits_xor_u32 _ _ (by omega) (hs_lt 8 (by omega)), st_tab]
theorem nt_bits {s : Nat} (h : s < 4294967296) : bits .xor .u32 IntKind.u32.max (s : Int) = (nt s : Nat) := bits_xor_u32 4294967295 s (by omega) h
def RelM (s : Nat) (t : ByteArray) (N I : Value) : Prop := ∃ k : Nat, k ≤ t.size ∧ N = .int .u32 (run (nt s) (t.data.toList.take k) : Nat) ∧ I = .int .i64 (k : Int)
set_option maxRecDepth 100000 in
set_option maxHeartbeats 1000000 in
theorem more_any (s : Nat) (t : ByteArray) (w : World) (hs' : s < 4294967296) (ht : t.size ≤ 1000000) :
 Calls Tryz.prog 101 #[.int .u32 (s : Int), .string t] w fun e w' => e = .returned (.int .u32 (mo s t.data.toList : Nat)) ∧ Below w.heap.size w w' := by
 have hz := zeroT
 have HN := Lib.hid (nt_bits hs')
 go_enter Tryz.func101, Tryz.ntmps101
 go_wp2_with (fail)
 refine (table_any _).mono ?_
 rintro e w1 ⟨rfl, hb⟩
 have HB := Lib.hid (MW_below hb); clear hb
 have HC := Lib.hid (MW_at w1)
 have hst := MW_store w1
 go_wp2_with (fail)
 clear hst hz
 generalize MW w1 = wm at *
 go_loop [6, 13] (fun N I => RelM s t N I) (fun _ I => t.size - (intOf I).toNat)
 case atStart => exact ⟨0, by omega, by rw [HN.out]; rfl, rfl⟩
 case round =>
  obtain ⟨k, hk, rfl, rfl⟩ := hrel
  have hl := run_lt (t.data.toList.take k) (nt_lt hs')
  by_cases hlt : k < t.size
  · have HR : Hid (run (nt s) (t.data.toList.take (k + 1)) = st (run (nt s) (t.data.toList.take k)) t[k]) := by
     show _ = _
     rw [take_snoc t k hlt, run_snoc]
    generalize run (nt s) (t.data.toList.take k) = n at *
    have e2 := bits_xor_u8 (n % 256) t[k].toNat (by omega) (UInt8.toNat_lt _)
    have h8 : n % 256 ^^^ t[k].toNat < 256 := Nat.xor_lt_two_pow (n := 8) (by omega) (UInt8.toNat_lt _)
    have hc := HC.out (n % 256 ^^^ t[k].toNat) h8
    have HX := Lib.hid (st_bits n t[k] hl)
    generalize n % 256 ^^^ t[k].toNat = x at e2 h8 hc HX
    have e3 : bits .xor .u8 ((n : Int) % 256) (t[k].toNat : Int) = (x : Int) := e2
    clear e2
    have k0 : (k : Int) < (t.size : Int) := by omega
    go_wp2_with (fail)
    go_round
    case rel => exact ⟨k + 1, by omega, by rw [HR.out, ← HX.out]; rfl, by go_num⟩
    case measure => simp [intOf]; omega
  · obtain rfl : k = t.size := by omega
    rw [take_all] at hl ⊢
    have HN2 := Lib.hid (nt_bits hl)
    have hge : ¬ (t.size : Int) < (t.size : Int) := by omega
    go_wp2_with (fail)
    go_ret
    exact ⟨ret_int HN2.out, HB.out⟩
set_option maxHeartbeats 1000000 in
theorem sum_any (t : ByteArray) (w : World) (ht : t.size ≤ 1000000) :
 Calls Tryz.prog 83 #[.string t] w fun e w' => e = .returned (.int .u32 (sm t.data.toList : Nat)) ∧ Below w.heap.size w w' := by
 go_enter Tryz.func83, Tryz.ntmps83
 go_wp2_with (fail)
 refine (more_any 0 t _ (by omega) ht).mono ?_
 rintro e w1 ⟨rfl, hb⟩
 have HB := Lib.hid hb; clear hb
 go_wp2_with (fail)
 go_ret
 exact ⟨rfl, HB.out⟩
theorem sb_at {x : Nat} (j : Nat) (hj : j < (sb x).length) : (sb x)[j] = by8 x j := by
 have h4 : j < 4 := hj
 match j, h4 with
 | 0, _ => rfl
 | 1, _ => rfl
 | 2, _ => rfl
 | 3, _ => rfl
def RelB (w : World) (B x : Nat) (I : Value) (wr : World) : Prop := ∃ k : Nat, k ≤ 4 ∧ I = .int .i64 (k : Int) ∧ RowTo w B 5 4 (fun i => .int .u8 (by8 x i).toNat) (.int .u8 0) k wr
set_option maxRecDepth 100000 in
set_option maxHeartbeats 1000000 in
theorem sumBytes_any (t : ByteArray) (w : World) (ht : t.size ≤ 1000000) :
 Calls Tryz.prog 59 #[.string t] w fun e w' => e = .returned (.string (tx (sb (sm t.data.toList)))) ∧ Below w.heap.size w w' := by
 have hmk : ∀ w, (Instr.makeSlice 67 (.int .i64 4) (.int .i64 4)).run Tryz.prog w = .ok (.slice (some ⟨w.heap.size, 0, none⟩) 4 4) (w.alloc (.cells (madeCells #[.int .u8 0] 4) 5)) :=
  run_make_row' (P := Tryz.prog) 67 5 (.int .u8 0) 1 Tryz.underlying67 info8 rfl .i64 .i64 4 (by omega) (by omega)
 go_enter Tryz.func59, Tryz.ntmps59
 go_wp2_with (fail)
 refine (sum_any t _ ht).mono ?_
 rintro e w1 ⟨rfl, hb⟩
 have HB := Lib.hid hb; clear hb
 have hl := sm_lt t.data.toList
 generalize hx : sm t.data.toList = x at *
 have HX := Lib.hid hx; clear hx
 go_wp2_with (fail)
 clear hmk
 go_loopw [11] (fun I wr => RelB w w1.heap.size x I wr) (fun I _ => 4 - (intOf I).toNat)
 case atStart => exact ⟨0, by omega, rfl, RowTo.start HB.out _ 4 _ _⟩
 case round =>
  obtain ⟨k, hk, rfl, hR⟩ := hrel
  have HR := Lib.hid hR; clear hR
  by_cases hlt : k < 4
  · have hc := HR.out.cell hlt
    have hf := HR.out.row.frozen k
    go_wp2_with (fail)
    go_roundw
    case rel => exact ⟨k + 1, by omega, by go_num, HR.out.set (by rw [by8_n]; simp)⟩
    case measure => simp [intOf]; omega
  · obtain rfl : k = 4 := by omega
    have hcv := run_text (w := wr) (b := w1.heap.size) (o := 0) (c := 4) (l := sb x) (m := 4) rfl (fun j hj => by
     rw [Nat.zero_add, HR.out.done.cell hj, sb_at j hj])
    go_wp2_with (fail)
    go_ret
    exact ⟨by rw [HX.out]; rfl, HR.out.below⟩
set_option maxHeartbeats 1000000 in
theorem seal_any (t : ByteArray) (w : World) (ht : t.size ≤ 1000000) :
 Calls Tryz.prog 41 #[.string t] w fun e w' => e = .returned (.string (tx (sl t.data.toList))) ∧ Below w.heap.size w w' := by
 have HE : Hid (t ++ tx (sb (sm t.data.toList)) = tx (sl t.data.toList)) := tx_ext (by rw [list_append, tx_list]; rfl)
 have hz : (tx (sb (sm t.data.toList))).size ≤ 4 := by rw [tx_size]; exact Nat.le_refl _
 go_enter Tryz.func41, Tryz.ntmps41
 go_wp2_with (fail)
 refine (sumBytes_any t _ ht).mono ?_
 rintro e w1 ⟨rfl, hb⟩
 have HB := Lib.hid hb; clear hb
 generalize tx (sb (sm t.data.toList)) = u at *
 have hz' : ¬ t.size + u.size > 9223372036854775807 := by omega
 go_wp2_with (fail)
 go_ret
 exact ⟨ret_str HE.out, HB.out⟩
theorem sumBytes_ext (t : ByteArray) (n : Nat) (w : World) (ht : t.size ≤ 1000000) :
 Calls Tryz.prog 59 #[.string (t.extract 0 n)] w fun e w' => e = .returned (.string (tx (sb (sm (t.data.toList.take n))))) ∧ Below w.heap.size w w' := by
 rw [ext_take]
 have h := sumBytes_any (tx (t.data.toList.take n)) w (by rw [tx_size]; have := List.length_take_le' n t.data.toList; simp at this ⊢; omega)
 rw [tx_list] at h
 exact h
theorem eq_bool (t : ByteArray) (l : List UInt8) : ((t.extract (t.size - 4) t.size).toList == (tx l).toList) = decide (t.data.toList.drop (t.size - 4) = l) := by
 rw [ByteArray.toList_eq, ByteArray.toList_eq, ext_drop, tx_list, tx_list]
 rw [Bool.eq_iff_iff]; simp
set_option maxHeartbeats 1000000 in
theorem open_short (t : ByteArray) (w : World) (ht : t.size < 4) :
 Calls Tryz.prog 42 #[.string t] w fun e w' => e = .returned (.tuple #[.string ⟨#[]⟩, .int .i64 2]) ∧ Below w.heap.size w w' := by
 go_enter Tryz.func42, Tryz.ntmps42
 go_wp2_with (fail)
 go_ret2
 exact ⟨rfl, Below.refl _ _⟩
set_option maxHeartbeats 1000000 in
theorem open_bad (t : ByteArray) (w : World) (ht : 4 ≤ t.size) (hm : t.size ≤ 1000000) (hne : t.data.toList.drop (t.size - 4) ≠ sb (sm (t.data.toList.take (t.size - 4)))) :
 Calls Tryz.prog 42 #[.string t] w fun e w' => e = .returned (.tuple #[.string ⟨#[]⟩, .int .i64 7]) ∧ Below w.heap.size w w' := by
 have hq := (eq_bool t (sb (sm (t.data.toList.take (t.size - 4))))).trans (decide_eq_false hne)
 clear hne
 go_enter Tryz.func42, Tryz.ntmps42
 go_wp2_with (fail)
 refine wp_over (by kernel_rfl) (by kernel_rfl) ?_
 repeat (go_big_quiet_step ((go_at_call 59; exact over_make _ (sumBytes_ext t (t.size - 4) _ hm))))
 refine wpQuiet_nil ?_
 rintro wq ⟨⟨w1, hb⟩, hw⟩
 obtain rfl : w1 = wq := hw.symm
 have HB : Hid (Below w.heap.size w w1) := hb
 clear hb hw
 go_wp2_with (fail)
 go_ret2
 exact ⟨rfl, HB.out⟩
set_option maxHeartbeats 1000000 in
theorem open_yes (t : ByteArray) (w : World) (ht : 4 ≤ t.size) (hm : t.size ≤ 1000000) (heq : t.data.toList.drop (t.size - 4) = sb (sm (t.data.toList.take (t.size - 4)))) :
 Calls Tryz.prog 42 #[.string t] w fun e w' => e = .returned (.tuple #[.string (tx (t.data.toList.take (t.size - 4))), .int .i64 0]) ∧ Below w.heap.size w w' := by
 have hq := (eq_bool t (sb (sm (t.data.toList.take (t.size - 4))))).trans (decide_eq_true heq)
 clear heq
 go_enter Tryz.func42, Tryz.ntmps42
 go_wp2_with (fail)
 refine wp_over (by kernel_rfl) (by kernel_rfl) ?_
 repeat (go_big_quiet_step ((go_at_call 59; exact over_make _ (sumBytes_ext t (t.size - 4) _ hm))))
 refine wpQuiet_nil ?_
 rintro wq ⟨⟨w1, hb⟩, hw⟩
 obtain rfl : w1 = wq := hw.symm
 have HB : Hid (Below w.heap.size w w1) := hb
 clear hb hw
 go_wp2_with (fail)
 refine (clone_any _ _ (by rw [ext_take, tx_size]; have := List.length_take_le' (t.size - 4) t.data.toList; simp at this ⊢; omega)).mono ?_
 rintro e w2 ⟨rfl, hb2⟩
 have HB2 := Lib.hid (Below.next HB.out hb2); clear hb2
 go_wp2_with (fail)
 go_ret2
 exact ⟨by rw [← ext_take]; rfl, HB2.out⟩
end Go.Proofs.YtchmepalhldpcaaGreatDoor.Cr
namespace Go.Proofs.YtchmepalhldpcaaGreatDoor.Fr
open Go.ChangeShapes Go.WideShapes Go.ChangeAt Go.RowKit Ov Tp Cr
def fk (x : Fd) : Nat → List UInt8
 | 0 => []
 | k + 1 => fk x k ++ nb ((ns x).getD k 0).toNat
def body (x : Fd) (p : List UInt8) : List UInt8 := fk x 4 ++ (nb p.length ++ p)
def fr (x : Fd) (p : List UInt8) : List UInt8 := sl (body x p)
theorem fk_len {x : Fd} (h : rt x = true) : ∀ k, k ≤ 4 → (fk x k).length ≤ 8 * k
 | 0, _ => Nat.le_refl _
 | k + 1, hk => by
   have h1 := fk_len h k (by omega)
   have h2 := ns_at h k (by omega)
   have h3 := nb_len8 (n := ((ns x).getD k 0).toNat) (by omega)
   simp only [fk, List.length_append]
   omega
theorem body_len {x : Fd} (h : rt x = true) {p : List UInt8} (hp : p.length ≤ 900000) : (body x p).length ≤ p.length + 40 := by
 have h1 := fk_len h 4 (by omega)
 have h2 := nb_len8 (n := p.length) (by omega)
 unfold body
 rw [List.length_append, List.length_append]
 omega
theorem fr_len {x : Fd} (h : rt x = true) {p : List UInt8} (hp : p.length ≤ 900000) : (fr x p).length ≤ p.length + 44 := by
 have := body_len h hp
 have e : (fr x p).length = (body x p).length + 4 := by unfold fr sl; rw [List.length_append, sb_length]
 omega
set_option maxRecDepth 100000 in
set_option maxHeartbeats 2000000 in
theorem frame_no (x : Fd) (t : ByteArray) (w : World) (hx : rt x = false) :
 Calls Tryz.prog 21 #[.agg #[.int .i64 x.t, .int .i64 x.a, .int .i64 x.p, .int .i64 x.f], .string t] w (Gives (.tuple #[.string ⟨#[]⟩, .int .i64 1]) w) := by
 have hr := right_any x (w.alloc (.cells #[.int .i64 x.t, .int .i64 x.a, .int .i64 x.p, .int .i64 x.f] 26))
 have HB0 := Lib.hid (box1 w (.cells #[.int .i64 x.t, .int .i64 x.a, .int .i64 x.p, .int .i64 x.f] 26))
 rw [hx] at hr
 go_enter Tryz.func21, Tryz.ntmps21
 go_wp2_with (fail)
 refine hr.mono ?_
 rintro e w1 ⟨rfl, hb⟩
 have HB := Lib.hid (Below.next HB0.out hb)
 clear hb hr
 go_wp2_with (fail)
 go_ret2
 exact ⟨rfl, HB.out⟩
set_option maxRecDepth 100000 in
set_option maxHeartbeats 4000000 in
theorem frame_yes (x : Fd) (t : ByteArray) (w : World) (hx : rt x = true) (ht : t.size ≤ 900000) :
 Calls Tryz.prog 21 #[.agg #[.int .i64 x.t, .int .i64 x.a, .int .i64 x.p, .int .i64 x.f], .string t] w (Gives (.tuple #[.string (tx (fr x t.data.toList)), .int .i64 0]) w) := by
 have hr := right_any x (w.alloc (.cells #[.int .i64 x.t, .int .i64 x.a, .int .i64 x.p, .int .i64 x.f] 26))
 have HX := Lib.hid (Blk.made w 26 [.int .i64 x.t, .int .i64 x.a, .int .i64 x.p, .int .i64 x.f] rfl)
 have HB0 := Lib.hid (box1 w (.cells #[.int .i64 x.t, .int .i64 x.a, .int .i64 x.p, .int .i64 x.f] 26))
 have HRT := Lib.hid hx
 have ho := of_any x
 rw [hx] at hr
 have hle : ¬ (1048576 : Int) < (t.size : Int) := by omega
 have hlt0 : decide ((1048576 : Int) < (t.size : Int)) = false := decide_eq_false hle
 have hsl : (t.data.toList).length = t.size := by simp
 go_enter Tryz.func21, Tryz.ntmps21
 go_wp2_with (fail)
 refine hr.mono ?_
 rintro e w1 ⟨rfl, hb⟩
 have HX1 := Lib.hid (HX.out.next hb)
 have HB1 := Lib.hid (Below.next HB0.out hb)
 have c0 := HX1.out.c 0 _ rfl; have c1 := HX1.out.c 1 _ rfl; have c2 := HX1.out.c 2 _ rfl; have c3 := HX1.out.c 3 _ rfl
 have hlt1 := HX1.out.lt
 have hn1 : ¬ w.heap.size = w1.heap.size := by omega
 have hn2 : ¬ w1.heap.size = w.heap.size := by omega
 clear hb hr HX HB0
 go_wp2_with (fail)
 refine (ho _).mono ?_
 rintro e w2 ⟨rfl, hb⟩
 have HD2 : Hid (Bld w1.heap.size w1.heap.size [] w2) := (Bld.fresh w1).old hb
 have HB2 : Hid (Below w.heap.size w w2) := (HB1.out.alloc HB1.out.size _).trans (hb.mono (by simp; have := HB1.out.size; omega))
 have HZ2 : Hid (w1.heap.size ≤ w2.heap.size) := by have := hb.size; simp at this; show _ ≤ _; omega
 clear hb ho
 go_wp2_with (fail)
 go_loopw [19] (fun i wr => ∃ k : Nat, k ≤ 4 ∧ i = .int .i64 (k : Int) ∧ Hid (Bld w1.heap.size w1.heap.size (fk x k) wr) ∧ Hid (Below w.heap.size w wr) ∧ Hid (w1.heap.size ≤ wr.heap.size)) (fun i _ => 4 - (intOf i).toNat)
 case atStart => exact ⟨0, by omega, rfl, HD2, HB2, HZ2⟩
 case round =>
  obtain ⟨k, hk, rfl, hd, hb, hz⟩ := hrel
  by_cases hlt : k < 4
  · have hix := fun W => index_ns x k hlt W
    have hlt' : (k : Int) < 4 := by omega
    have HL := Lib.hid (fk_len HRT.out k hk)
    have HN := Lib.hid (ns_at HRT.out k hlt)
    have HP : Hid (fk x (k + 1) = fk x k ++ (tx (nb ((ns x).getD k 0).toNat)).data.toList) := by show _ = _; rw [tx_list]; rfl
    generalize (ns x).getD k 0 = n at hix HP HN
    obtain ⟨m, rfl⟩ : ∃ m : Nat, n = (m : Int) := ⟨n.toNat, by have := HN.out; omega⟩
    rw [Int.toNat_natCast] at HP
    have hm : m ≤ 9007199254740991 := by have := HN.out; omega
    have hnum := fun W => num_any (m : Int) W
    rw [nv_nat hm] at hnum
    have h8 : (tx (nb m)).size ≤ 8 := by rw [tx_size]; exact nb_len8 hm
    generalize tx (nb m) = S at *
    go_wp2_with (fail)
    refine (hnum _).mono ?_
    rintro e w3 ⟨rfl, hb3⟩
    have HD3 := Lib.hid (hd.out.old hb3)
    have HB3 := Lib.hid (Below.next hb.out hb3)
    have HZ3 : Hid (w1.heap.size ≤ w3.heap.size) := Nat.le_trans hz.out hb3.size
    clear hb3
    go_wp2_with (fail)
    refine (write_any _ _ _ S _ HD3.out (by have := HL.out; omega) HZ3.out).mono ?_
    rintro e w5 ⟨rfl, hd5, hb5⟩
    have HD5 := Lib.hid (hd5.cast HP.out.symm)
    have HB5 : Hid (Below w.heap.size w w5) := HB3.out.trans (hb5.mono (by have := HB1.out.size; omega))
    have HZ5 : Hid (w1.heap.size ≤ w5.heap.size) := Nat.le_trans HZ3.out hb5.size
    clear hd5 hb5
    go_wp2_with (fail)
    go_roundw
    · exact ⟨k + 1, by omega, by first | rfl | (congr 1; omega), HD5, HB5, HZ5⟩
    · simp [intOf]; omega
  · obtain rfl : k = 4 := by omega
    have HL := Lib.hid (fk_len HRT.out 4 (Nat.le_refl _))
    have htx := fun W => text_any t W (by omega)
    have h8 : (tx (nb t.size ++ t.data.toList)).size ≤ t.size + 8 := by rw [tx_size, List.length_append, hsl]; have := nb_len8 (n := t.size) (by omega); omega
    have HBD : Hid (body x t.data.toList = fk x 4 ++ (tx (nb t.size ++ t.data.toList)).data.toList) := by show _ = _; unfold body; rw [tx_list, hsl]
    have hseal := fun W => seal_any (tx (body x t.data.toList)) W (by rw [tx_size]; have := body_len HRT.out (p := t.data.toList) (by omega); omega)
    rw [tx_list] at hseal
    generalize tx (nb t.size ++ t.data.toList) = S at *
    go_wp2_with (fail)
    refine (htx _).mono ?_
    rintro e w3 ⟨rfl, hb3⟩
    have HD3 := Lib.hid (hd.out.old hb3)
    have HB3 := Lib.hid (Below.next hb.out hb3)
    have HZ3 : Hid (w1.heap.size ≤ w3.heap.size) := Nat.le_trans hz.out hb3.size
    clear hb3 htx hd hb hz
    go_wp2_with (fail)
    refine (write_any _ _ _ S _ HD3.out (by have := HL.out; omega) HZ3.out).mono ?_
    rintro e w5 ⟨rfl, hd5, hb5⟩
    have HD5 := Lib.hid (hd5.cast HBD.out.symm)
    have HB5 : Hid (Below w.heap.size w w5) := HB3.out.trans (hb5.mono (by have := HB1.out.size; omega))
    have HZ5 : Hid (w1.heap.size ≤ w5.heap.size) := Nat.le_trans HZ3.out hb5.size
    clear hd5 hb5 HD3 HB3 HZ3
    go_wp2_with (fail)
    refine (string_any _ _ _ _ HD5.out HZ5.out).mono ?_
    rintro e w6 ⟨rfl, hb6⟩
    have HB6 : Hid (Below w.heap.size w w6) := HB5.out.trans (hb6.mono (by have := HB1.out.size; omega))
    clear hb6
    go_wp2_with (fail)
    refine (hseal _).mono ?_
    rintro e w7 ⟨rfl, hb7⟩
    have HB7 := Lib.hid (Below.next HB6.out hb7)
    clear hb7
    go_wp2_with (fail)
    go_ret2
    exact ⟨rfl, HB7.out⟩
end Go.Proofs.YtchmepalhldpcaaGreatDoor.Fr
namespace Go.Proofs.YtchmepalhldpcaaGreatDoor.Cr
open Go.ChangeShapes Go.WideShapes Go.ChangeAt Go.RowKit Ov
def opv (l : List UInt8) : List UInt8 × Int :=
 if l.length < 4 then ([], 2) else if l.drop (l.length - 4) = sb (sm (l.take (l.length - 4))) then (l.take (l.length - 4), 0) else ([], 7)
theorem opv_sl (l : List UInt8) : opv (sl l) = (l, 0) := by
 have e : (sl l).length - 4 = l.length := by simp [sl, sb_length]
 have h1 : (sl l).take l.length = l := by simp [sl]
 have h2 : (sl l).drop l.length = sb (sm l) := by simp [sl]
 unfold opv
 rw [if_neg (by simp [sl, sb_length]), e, h1, h2, if_pos rfl]
theorem size_list (t : ByteArray) : t.data.toList.length = t.size := by simp
theorem open_any (t : ByteArray) (w : World) (hm : t.size ≤ 1000000) :
 Calls Tryz.prog 42 #[.string t] w fun e w' => e = .returned (.tuple #[.string (tx (opv t.data.toList).1), .int .i64 (opv t.data.toList).2]) ∧ Below w.heap.size w w' := by
 unfold opv
 rw [size_list]
 by_cases h : t.size < 4
 · rw [if_pos h]; exact open_short t w h
 · rw [if_neg h]
   by_cases e : t.data.toList.drop (t.size - 4) = sb (sm (t.data.toList.take (t.size - 4)))
   · rw [if_pos e]; exact open_yes t w (by omega) hm e
   · rw [if_neg e]; exact open_bad t w (by omega) hm e
end Go.Proofs.YtchmepalhldpcaaGreatDoor.Cr
namespace Go.Proofs.YtchmepalhldpcaaGreatDoor.Fr
open Go.ChangeShapes Go.WideShapes Go.ChangeAt Go.RowKit Ov Tp Cr
theorem blk_tur {w w' : World} {R b : Nat} {vs : List Value} (h : Blk w R vs) (k : Tur b w w') (hne : R ≠ b) : Blk w' R vs := h.kp (O := (· = b)) ⟨k.os, k.tape, k.output, k.size, k.block⟩ hne
theorem body_split (x : Fd) (p : List UInt8) (k : Nat) : ∀ m, k ≤ m → ∃ r, fk x m = fk x k ++ r
 | 0, h => ⟨[], by rw [show k = 0 by omega]; rfl⟩
 | m + 1, h => by
   by_cases e : k = m + 1
   · subst e; exact ⟨[], by simp⟩
   · obtain ⟨r, hr⟩ := body_split x p k m (by omega)
     exact ⟨r ++ nb ((ns x).getD m 0).toNat, by rw [fk, hr, List.append_assoc]⟩
def rs (x : Fd) (p : List UInt8) (k : Nat) : List UInt8 := (body x p).drop (fk x k).length
theorem rs_four (x : Fd) (p : List UInt8) : rs x p 4 = nb p.length ++ p := List.drop_left' rfl
theorem rs_succ (x : Fd) (p : List UInt8) {k : Nat} (hk : k < 4) : rs x p k = nb ((ns x).getD k 0).toNat ++ rs x p (k + 1) := by
 obtain ⟨r, hr⟩ := body_split x p (k + 1) 4 (by omega)
 have e : body x p = fk x (k + 1) ++ (r ++ (nb p.length ++ p)) := by unfold body; rw [hr, List.append_assoc]
 have e2 : body x p = fk x k ++ (nb ((ns x).getD k 0).toNat ++ (r ++ (nb p.length ++ p))) := by rw [e, fk, List.append_assoc]
 have h1 : rs x p (k + 1) = r ++ (nb p.length ++ p) := by unfold rs; rw [e]; exact List.drop_left' rfl
 rw [h1]
 unfold rs; rw [e2]; exact List.drop_left' rfl
theorem rs_len (x : Fd) (p : List UInt8) (k : Nat) : (rs x p k).length ≤ (body x p).length := by unfold rs; rw [List.length_drop]; omega
set_option maxRecDepth 100000 in
set_option maxHeartbeats 4000000 in
theorem fopen_bad (s : ByteArray) (c : Int) (w : World) (hs : s.size ≤ 1000000) (ho : opv s.data.toList = ([], c)) (hc : c ≠ 0) :
 Calls Tryz.prog 23 #[.string s] w (Gives (.tuple #[.agg #[.int .i64 0, .int .i64 0, .int .i64 0, .int .i64 0], .string ⟨#[]⟩, .int .i64 c]) w) := by
 have hop := fun W => open_any s W hs
 rw [ho] at hop
 have HR0 := Lib.hid (Blk.made w 26 [.int .i64 0, .int .i64 0, .int .i64 0, .int .i64 0] rfl)
 have HB0 := Lib.hid (box1 w (.cells #[.int .i64 0, .int .i64 0, .int .i64 0, .int .i64 0] 26))
 have hcb : (c != 0) = true := by rw [bne_iff_ne]; exact hc
 clear ho hc
 go_enter Tryz.func23, Tryz.ntmps23
 go_wp2_with (fail)
 generalize hw0 : (w.alloc _) = w0 at *
 clear hw0
 refine (hop _).mono ?_
 rintro e w1 ⟨rfl, hb⟩
 have HR1 := Lib.hid (HR0.out.next hb)
 have HB1 := Lib.hid (Below.next HB0.out hb)
 clear hb hop
 have c0 := HR1.out.c 0 _ rfl; have c1 := HR1.out.c 1 _ rfl; have c2 := HR1.out.c 2 _ rfl; have c3 := HR1.out.c 3 _ rfl
 have f0 := HR1.out.f 0 _ rfl; have f1 := HR1.out.f 1 _ rfl; have f2 := HR1.out.f 2 _ rfl; have f3 := HR1.out.f 3 _ rfl
 go_wp2_with (fail)
 obtain ⟨hF, hG⟩ := four (p := .int .i64 0) (q := .int .i64 0) (r := .int .i64 0) (s := .int .i64 0) HR1.out HB1.out (Nat.le_refl _)
 clear c0 c1 c2 c3 f0 f1 f2 f3
 generalize (((World.setCell w1 _ _).setCell _ _).setCell _ _).setCell _ _ = W at *
 have e0 := hF.c 0 _ rfl; have e1 := hF.c 1 _ rfl; have e2 := hF.c 2 _ rfl; have e3 := hF.c 3 _ rfl
 (try simp only [Exit.inBlock, Exit.then]); refine bodyPost_ret (v := .tuple #[.agg #[.int .i64 0, .int .i64 0, .int .i64 0, .int .i64 0], .string ⟨#[]⟩, .int .i64 c]) (by simp [results, Tryz.results23, go_sem, e0, e1, e2, e3]) rfl ⟨rfl, hG⟩
set_option maxRecDepth 100000 in
set_option maxHeartbeats 4000000 in
theorem fopen_yes (x : Fd) (p : List UInt8) (w : World) (hx : rt x = true) (hp : p.length ≤ 900000) :
 Calls Tryz.prog 23 #[.string (tx (fr x p))] w (Gives (.tuple #[.agg #[.int .i64 x.t, .int .i64 x.a, .int .i64 x.p, .int .i64 x.f], .string (tx p), .int .i64 0]) w) := by
 have hbl := body_len hx hp
 have hop := fun W => open_any (tx (fr x p)) W (by rw [tx_size]; have := fr_len hx hp; omega)
 rw [tx_list, show fr x p = sl (body x p) from rfl, opv_sl] at hop
 have hnew := fun W => new_any (tx (body x p)) W (by rw [tx_size]; omega)
 rw [tx_list] at hnew
 have HR0 := Lib.hid (Blk.made w 26 [.int .i64 0, .int .i64 0, .int .i64 0, .int .i64 0] rfl)
 have HB0 := Lib.hid (box1 w (.cells #[.int .i64 0, .int .i64 0, .int .i64 0, .int .i64 0] 26))
 have HRT := Lib.hid hx; have HBL := Lib.hid hbl; have HPL := Lib.hid hp
 clear hx hbl hp
 show Calls _ _ #[.string (tx (sl (body x p)))] _ _
 generalize tx (sl (body x p)) = s at *
 generalize tx (body x p) = bt at *
 go_enter Tryz.func23, Tryz.ntmps23
 go_wp2_with (fail)
 generalize hw0 : (w.alloc _) = w0 at *
 clear hw0
 refine (hop _).mono ?_
 rintro e w1 ⟨rfl, hb⟩
 have HR1 := Lib.hid (HR0.out.next hb)
 have HB1 := Lib.hid (Below.next HB0.out hb)
 clear hb hop HR0 HB0
 go_wp2_with (fail)
 refine (hnew _).mono ?_
 rintro e w2 ⟨b, rfl, hbl, hit, hb⟩
 have hRb : w.heap.size < b := Nat.lt_of_lt_of_le HR1.out.lt hbl
 have hb2 : b < w2.heap.size := hit.lt
 have HR2 := Lib.hid (HR1.out.next hb)
 have HB2 := Lib.hid (Below.next HB1.out hb)
 have HA3 := Lib.hid (Blk.made w2 51 [.int .i64 0, .int .i64 0, .int .i64 0, .int .i64 0] rfl)
 have HR3 := Lib.hid (HR2.out.old (.cells #[.int .i64 0, .int .i64 0, .int .i64 0, .int .i64 0] 51))
 have HB3 := Lib.hid (HB2.out.alloc HB2.out.size (.cells #[.int .i64 0, .int .i64 0, .int .i64 0, .int .i64 0] 51))
 have HI3 : Hid (IsT (w2.alloc (.cells #[.int .i64 0, .int .i64 0, .int .i64 0, .int .i64 0] 51)) b (rs x p 0)) := One.old hit (box1 w2 _)
 clear hb hnew hit hbl HR1 HB1 HR2
 go_wp2_with (fail)
 generalize hw3 : (w2.alloc _) = w3 at *
 have hAz : w2.heap.size < w3.heap.size := by rw [← hw3]; simp
 clear hw3
 obtain ⟨A, hA⟩ : ∃ A, w2.heap.size = A := ⟨_, rfl⟩
 rw [hA] at HA3 hb2 hAz ⊢
 clear hA
 have hbA : ¬ b = A := by omega
 have hAb : ¬ A = b := by omega
 go_loopw [22] (fun i wr => ∃ (k : Nat) (y : Fd), k ≤ 4 ∧ i = .int .i64 (k : Int) ∧ Hid (∀ j, j < k → (ns y).getD j 0 = (ns x).getD j 0) ∧ Hid (Blk wr w.heap.size [.int .i64 0, .int .i64 0, .int .i64 0, .int .i64 0]) ∧ Hid (Blk wr A (cl y)) ∧ Hid (IsT wr b (rs x p k)) ∧ Hid (Below w.heap.size w wr)) (fun i _ => 4 - (intOf i).toNat)
 case atStart => exact ⟨0, z0, by omega, rfl, Lib.hid (fun j h => absurd h (Nat.not_lt_zero j)), HR3, HA3, HI3, HB3⟩
 case round =>
  obtain ⟨k, y, hk, rfl, HY, HR, HA, HI, HB⟩ := hrel
  by_cases hlt : k < 4
  · have hlt' : (k : Int) < 4 := by omega
    have hnk := ns_at HRT.out k hlt
    have hrs := rs_succ x p hlt
    have hrl := rs_len x p k
    have hbl := HBL.out
    have hpl := HPL.out
    have HYN : Hid (∀ j, j < k + 1 → (ns (upd y k ((ns x).getD k 0))).getD j 0 = (ns x).getD j 0) := Lib.hid fun j hj => by
     rw [upd_at y hlt _ (by omega)]
     by_cases e : j = k
     · subst e; rw [if_pos rfl]
     · rw [if_neg e]; exact HY.out j (by omega)
    have HD := Lib.hid (cl_set y hlt ((ns x).getD k 0))
    have HC := Lib.hid (cl_at y hlt)
    have hnum := num_ok b (rs x p k) (n := ((ns x).getD k 0).toNat) (t := rs x p (k + 1)) wr HI.out (by omega) (by rw [hrs]; exact cn_laid _ _ (by omega))
    rw [show (((ns x).getD k 0).toNat : Int) = (ns x).getD k 0 by omega] at hnum
    clear hrs hrl hnk
    generalize (ns x).getD k 0 = n at hnum HYN HD
    generalize (ns y).getD k 0 = n0 at HC
    have HNUM := Lib.hid hnum
    clear hnum
    go_wp2_with (fail)
    refine HNUM.out.mono ?_
    rintro e w4 ⟨rfl, hit, htu⟩
    have HR4 := Lib.hid (blk_tur HR.out htu (by omega))
    have HA4 := Lib.hid (blk_tur HA.out htu hAb)
    have HB4 := Lib.hid (HB.out.trans (htu.below (lo := w.heap.size) (by omega) HB.out.size))
    have HI4 := Lib.hid hit
    clear hit htu HR HA HB HI HNUM
    have cA := HA4.out.c k _ HC.out
    have fA := HA4.out.f k _ HC.out
    go_wp2_with (fail)
    go_roundw
    · exact ⟨k + 1, upd y k n, by omega, by first | rfl | (congr 1; omega), HYN, Lib.hid (HR4.out.put (c := A) (by omega) _ _), Lib.hid ((HA4.out.set k _).cast HD.out), Lib.hid (One.tur HI4.out ((Tur.refl (b := A)).setCell k _) hbA), Lib.hid (HB4.out.setCell (show w.heap.size ≤ A by omega) _)⟩
    · simp [intOf]; omega
  · obtain rfl : k = 4 := by omega
    obtain rfl : y = x := ns_ext HY.out
    have htx := text_ok b (rs y p 4) 1048576 (n := p.length) (t := p) wr HI.out (by have := rs_len y p 4; have := HBL.out; have := HPL.out; omega) (by rw [rs_four]; exact cc_laid p.length p 1048576 (by have := HPL.out; omega) (by have := HPL.out; omega)) (Nat.le_refl _)
    rw [List.take_length, List.drop_length] at htx
    have HTX := Lib.hid htx
    have hri := fun W => right_any y W
    rw [HRT.out] at hri
    have hid := fun W => id_any y W
    clear htx
    go_wp2_with (fail)
    refine HTX.out.mono ?_
    rintro e w4 ⟨rfl, hit, htu⟩
    have HR4 := Lib.hid (blk_tur HR.out htu (by omega))
    have HA4 := Lib.hid (blk_tur HA.out htu hAb)
    have HB4 := Lib.hid (HB.out.trans (htu.below (lo := w.heap.size) (by omega) HB.out.size))
    have hend := end_yes b [] w4 hit rfl
    clear hit htu HR HA HB HI HTX
    go_wp2_with (fail)
    refine hend.mono ?_
    rintro e w5 ⟨rfl, rfl⟩
    have a0 := HA4.out.c 0 _ rfl; have a1 := HA4.out.c 1 _ rfl; have a2 := HA4.out.c 2 _ rfl; have a3 := HA4.out.c 3 _ rfl
    clear hend
    go_wp2_with (fail)
    refine (hid _).mono ?_
    rintro e w6 ⟨rfl, hb⟩
    have HR6 := Lib.hid (HR4.out.next hb)
    have HA6 := Lib.hid (HA4.out.next hb)
    have HB6 := Lib.hid (Below.next HB4.out hb)
    clear hb a0 a1 a2 a3 HR4 HA4 HB4
    go_wp2_with (fail)
    refine (hri _).mono ?_
    rintro e w7 ⟨rfl, hb⟩
    have HR7 := Lib.hid (HR6.out.next hb)
    have HA7 := Lib.hid (HA6.out.next hb)
    have HB7 := Lib.hid (Below.next HB6.out hb)
    clear hb HR6 HA6 HB6
    have a0 := HA7.out.c 0 _ rfl; have a1 := HA7.out.c 1 _ rfl; have a2 := HA7.out.c 2 _ rfl; have a3 := HA7.out.c 3 _ rfl
    go_wp2_with (fail)
    refine (hid _).mono ?_
    rintro e w8 ⟨rfl, hb⟩
    have HR8 := Lib.hid (HR7.out.next hb)
    have HB8 := Lib.hid (Below.next HB7.out hb)
    clear hb a0 a1 a2 a3 HR7 HA7 HB7
    have c0 := HR8.out.c 0 _ rfl; have c1 := HR8.out.c 1 _ rfl; have c2 := HR8.out.c 2 _ rfl; have c3 := HR8.out.c 3 _ rfl
    have f0 := HR8.out.f 0 _ rfl; have f1 := HR8.out.f 1 _ rfl; have f2 := HR8.out.f 2 _ rfl; have f3 := HR8.out.f 3 _ rfl
    go_wp2_with (fail)
    obtain ⟨hF, hG⟩ := four (p := .int .i64 y.t) (q := .int .i64 y.a) (r := .int .i64 y.p) (s := .int .i64 y.f) HR8.out HB8.out (Nat.le_refl _)
    clear c0 c1 c2 c3 f0 f1 f2 f3
    generalize (((World.setCell w8 _ _).setCell _ _).setCell _ _).setCell _ _ = W at *
    have e0 := hF.c 0 _ rfl; have e1 := hF.c 1 _ rfl; have e2 := hF.c 2 _ rfl; have e3 := hF.c 3 _ rfl
    (try simp only [Exit.inBlock, Exit.then]); refine bodyPost_ret (v := .tuple #[.agg #[.int .i64 y.t, .int .i64 y.a, .int .i64 y.p, .int .i64 y.f], .string (tx p), .int .i64 0]) (by simp [results, Tryz.results23, go_sem, e0, e1, e2, e3]) rfl ⟨rfl, hG⟩
end Go.Proofs.YtchmepalhldpcaaGreatDoor.Fr
namespace Go.Proofs.YtchmepalhldpcaaGreatDoor.Fr
open Go.ChangeShapes Go.WideShapes Go.ChangeAt Go.RowKit Ov Va
theorem fd_b (x y : Fd) : decide (x = y) = ((x.t == y.t) && ((x.a == y.a) && ((x.p == y.p) && (x.f == y.f)))) := by
 rw [Bool.eq_iff_iff]; simp [Fd.eq_iff]
set_option maxRecDepth 100000 in
set_option maxHeartbeats 1000000 in
theorem eql_rid (x y : Fd) (w : World) : (binOp .eql 23 (.agg #[.int .i64 x.t, .int .i64 x.a, .int .i64 x.p, .int .i64 x.f]) (.agg #[.int .i64 y.t, .int .i64 y.a, .int .i64 y.p, .int .i64 y.f])).run Tryz.prog w = .ok (.bool (decide (x = y))) w := by
 rw [fd_b]
 have u := Tryz.underlying3
 have hS : Tryz.prog.underlying 23 = some (.struct (Tryz.prog.fieldsOf 23)) := by kernel_rfl
 have hp : Tryz.prog.stoodInHeld 23 = false := by kernel_rfl
 rw [run_eql_struct, show (10000 : Nat) = 9999 + 1 from rfl, run_equalIn_struct w 9999 23 _ _ hS hp]
 clear hS hp
 simp only [Program.fieldsOf, Tryz.underlying23]
 go_simp
 clear u
 obtain ⟨a, b, c, d⟩ := x; obtain ⟨a', b', c', d'⟩ := y
 by_cases h1 : a = a' <;> by_cases h2 : b = b' <;> by_cases h3 : c = c' <;> by_cases h4 : d = d' <;> simp [h1, h2, h3, h4]
theorem eg_name : nm ⟨1, 20, 3, 0⟩ = [116, 49, 97, 50, 48, 112, 51, 102, 48] := by
 have i0 : Lib.itoa 0 = [48] := by unfold Lib.itoa; rw [if_neg (by decide)]; exact dec_small (by decide)
 have i1 : Lib.itoa 1 = [49] := by unfold Lib.itoa; rw [if_neg (by decide)]; exact dec_small (by decide)
 have i3 : Lib.itoa 3 = [51] := by unfold Lib.itoa; rw [if_neg (by decide)]; exact dec_small (by decide)
 have i20 : Lib.itoa 20 = [50, 48] := by
  unfold Lib.itoa; rw [if_neg (by decide)]
  show Lib.decDigits 20 = _
  rw [dec_big (by decide), dec_small (by decide)]; rfl
 rw [nm_rt rfl, pre4, i0, i1, i3, i20]; rfl
set_option maxHeartbeats 1000000 in
theorem awake_any (w : World) (ht : Tab w) : Calls Tryz.prog 5 #[] w (Gives (.bool true) w) := by
 have h := name_any ⟨1, 20, 3, 0⟩ w ht
 rw [eg_name] at h
 have hq : ((tx [116, 49, 97, 50, 48, 112, 51, 102, 48]).toList == [116, 49, 97, 50, 48, 112, 51, 102, 48]) = true := by rw [ByteArray.toList_eq, tx_list]; rfl
 generalize tx [116, 49, 97, 50, 48, 112, 51, 102, 48] = S at *
 go_enter Tryz.func5, Tryz.ntmps5
 go_wp2_with (fail)
 refine h.mono ?_
 rintro e w1 ⟨rfl, hb⟩
 have HB := Lib.hid hb
 clear h hb
 go_wp2_with (fail)
 go_ret
 exact ⟨rfl, HB.out⟩
end Go.Proofs.YtchmepalhldpcaaGreatDoor.Fr
namespace Go.Proofs.YtchmepalhldpcaaGreatDoor.Fr
open Go.ChangeShapes Go.WideShapes Go.ChangeAt Go.RowKit Ov Va Dk Cr
theorem dec_len : ∀ (k n : Nat), n < 10 ^ (k + 1) → (Lib.decDigits n).length ≤ k + 1
 | 0, n, h => by rw [dec_small (by simpa using h)]; simp
 | k + 1, n, h => by
   by_cases hs : n < 10
   · rw [dec_small hs]; simp
   · rw [dec_big hs, List.length_append]
     have := dec_len k (n / 10) (by rw [Nat.pow_succ] at h; omega)
     simp; omega
theorem itoa_len {n : Int} (h : 0 ≤ n ∧ n ≤ 2147483647) : (Lib.itoa n).length ≤ 10 := by
 unfold Lib.itoa
 rw [if_neg (by omega)]
 have h2 : n.toNat ≤ 2147483647 := by omega
 exact dec_len 9 _ (Nat.lt_of_le_of_lt h2 (by decide))
theorem pre_len2 {x : Fd} (h : rt x = true) : ∀ k, k ≤ 4 → (pre x k).length ≤ 11 * k
 | 0, _ => Nat.le_refl _
 | k + 1, hk => by
   have h1 := pre_len2 h k (by omega)
   have h3 := itoa_len (ns_at h k (by omega))
   simp only [pre, List.length_append, List.length_cons]
   omega
theorem nm_len2 (x : Fd) : (nm x).length ≤ 44 := by
 cases h : rt x
 · rw [nm_no h]; exact Nat.zero_le _
 · rw [nm_rt h]; exact pre_len2 h 4 (Nat.le_refl _)
set_option maxRecDepth 100000 in
set_option maxHeartbeats 1000000 in
theorem neq_id (x y : Fd) (w : World) : (binOp .neq 26 (.agg #[.int .i64 x.t, .int .i64 x.a, .int .i64 x.p, .int .i64 x.f]) (.agg #[.int .i64 y.t, .int .i64 y.a, .int .i64 y.p, .int .i64 y.f])).run Tryz.prog w = .ok (.bool (!decide (x = y))) w := by
 rw [fd_b]
 have u := Tryz.underlying3
 have hS : Tryz.prog.underlying 26 = some (.struct (Tryz.prog.fieldsOf 26)) := by kernel_rfl
 have hp : Tryz.prog.stoodInHeld 26 = false := by kernel_rfl
 rw [run_neq_struct, show (10000 : Nat) = 9999 + 1 from rfl, run_equalIn_struct w 9999 26 _ _ hS hp]
 clear hS hp
 simp only [Program.fieldsOf, Tryz.underlying26]
 go_simp
 clear u
 obtain ⟨a, b, c, d⟩ := x; obtain ⟨a', b', c', d'⟩ := y
 by_cases h1 : a = a' <;> by_cases h2 : b = b' <;> by_cases h3 : c = c' <;> by_cases h4 : d = d' <;> simp [h1, h2, h3, h4]
set_option maxRecDepth 100000 in
set_option maxHeartbeats 1000000 in
theorem neq_rid (x y : Fd) (w : World) : (binOp .neq 23 (.agg #[.int .i64 x.t, .int .i64 x.a, .int .i64 x.p, .int .i64 x.f]) (.agg #[.int .i64 y.t, .int .i64 y.a, .int .i64 y.p, .int .i64 y.f])).run Tryz.prog w = .ok (.bool (!decide (x = y))) w := by
 rw [fd_b]
 have u := Tryz.underlying3
 have hS : Tryz.prog.underlying 23 = some (.struct (Tryz.prog.fieldsOf 23)) := by kernel_rfl
 have hp : Tryz.prog.stoodInHeld 23 = false := by kernel_rfl
 rw [run_neq_struct, show (10000 : Nat) = 9999 + 1 from rfl, run_equalIn_struct w 9999 23 _ _ hS hp]
 clear hS hp
 simp only [Program.fieldsOf, Tryz.underlying23]
 go_simp
 clear u
 obtain ⟨a, b, c, d⟩ := x; obtain ⟨a', b', c', d'⟩ := y
 by_cases h1 : a = a' <;> by_cases h2 : b = b' <;> by_cases h3 : c = c' <;> by_cases h4 : d = d' <;> simp [h1, h2, h3, h4]
section
variable {O : Nat → Prop} {d sz : Nat} {L : List (List UInt8 × List UInt8)}
set_option maxRecDepth 100000 in
set_option maxHeartbeats 4000000 in
theorem put_no (x : Fd) (t : ByteArray) (w : World) (h : IsD w O d sz L) (hx : rt x = false) :
 Calls Tryz.prog 9 #[.pointer (some ⟨d, 0, none⟩), .agg #[.int .i64 x.t, .int .i64 x.a, .int .i64 x.p, .int .i64 x.f], .string t] w (WriteQ O d sz (1, L) w) := by
 have HB0 := Lib.hid (box1 w (.cells #[.int .i64 x.t, .int .i64 x.a, .int .i64 x.p, .int .i64 x.f] 26))
 have hfr := fun W => frame_no x t W hx
 have HI := Lib.hid h
 clear h
 go_enter Tryz.func9, Tryz.ntmps9
 go_wp2_with (fail)
 refine (hfr _).mono ?_
 rintro e w1 ⟨rfl, hb⟩
 have HB := Lib.hid (Below.next HB0.out hb)
 clear hb hfr
 go_wp2_with (fail)
 go_ret
 exact ⟨rfl, HI.out.stays HB.out⟩
set_option maxRecDepth 100000 in
set_option maxHeartbeats 4000000 in
theorem put_yes (x : Fd) (t : ByteArray) (w : World) (h : IsD w O d sz L) (hT : Tab w) (hx : rt x = true) (ht : t.size ≤ 900000) :
 Calls Tryz.prog 9 #[.pointer (some ⟨d, 0, none⟩), .agg #[.int .i64 x.t, .int .i64 x.a, .int .i64 x.p, .int .i64 x.f], .string t] w (WriteQ O d sz (wrt sz (nm x) (fr x t.data.toList) L) w) := by
 have HX := Lib.hid (Blk.made w 26 [.int .i64 x.t, .int .i64 x.a, .int .i64 x.p, .int .i64 x.f] rfl)
 have HB0 := Lib.hid (box1 w (.cells #[.int .i64 x.t, .int .i64 x.a, .int .i64 x.p, .int .i64 x.f] 26))
 have hfr := fun W => frame_yes x t W hx ht
 have hnm := fun W k => name_any x W k
 have HI := Lib.hid h; have HT := Lib.hid hT
 have hfl := fr_len hx (p := t.data.toList) (by simpa using ht)
 have htl : t.data.toList.length = t.size := by simp
 have HW := Lib.hid (fun W (k : IsD W O d sz L) => write_any (tx (nm x)) (tx (fr x t.data.toList)) (by rw [tx_size]; omega) W k)
 simp only [tx_list] at HW
 clear h hT
 generalize tx (nm x) = N at *
 generalize tx (fr x t.data.toList) = F at *
 generalize wrt sz (nm x) (fr x t.data.toList) L = q at *
 go_enter Tryz.func9, Tryz.ntmps9
 go_wp2_with (fail)
 refine (hfr _).mono ?_
 rintro e w1 ⟨rfl, hb⟩
 have HB1 := Lib.hid (Below.next HB0.out hb)
 have HX1 := Lib.hid (HX.out.next hb)
 clear hb hfr HX HB0
 have c0 := HX1.out.c 0 _ rfl; have c1 := HX1.out.c 1 _ rfl; have c2 := HX1.out.c 2 _ rfl; have c3 := HX1.out.c 3 _ rfl
 go_wp2_with (fail)
 refine (hnm _ (HT.out.next HB1.out)).mono ?_
 rintro e w2 ⟨rfl, hb⟩
 have HB2 := Lib.hid (Below.next HB1.out hb)
 clear hb hnm c0 c1 c2 c3 HX1
 go_wp2_with (fail)
 refine (HW.out _ (HI.out.next HB2.out)).mono ?_
 rintro e w3 ⟨rfl, ht3⟩
 have HT3 := Lib.hid (ht3.over HB2.out)
 clear ht3
 go_wp2_with (fail)
 go_ret
 exact ⟨rfl, HT3.out⟩
set_option maxRecDepth 100000 in
set_option maxHeartbeats 4000000 in
theorem get_yes (x : Fd) (p : List UInt8) (w : World) (h : IsD w O d sz L) (hT : Tab w) (hx : rt x = true) (hp : p.length ≤ 900000) (hg : gt (nm x) L = some (fr x p)) :
 Calls Tryz.prog 10 #[.pointer (some ⟨d, 0, none⟩), .agg #[.int .i64 x.t, .int .i64 x.a, .int .i64 x.p, .int .i64 x.f]] w (Gives (.tuple #[.string (tx p), .int .i64 0]) w) := by
 have HX := Lib.hid (Blk.made w 26 [.int .i64 x.t, .int .i64 x.a, .int .i64 x.p, .int .i64 x.f] rfl)
 have HB0 := Lib.hid (box1 w (.cells #[.int .i64 x.t, .int .i64 x.a, .int .i64 x.p, .int .i64 x.f] 26))
 have hri := fun W => right_any x W
 rw [hx] at hri
 have hnm := fun W k => name_any x W k
 have HI := Lib.hid h; have HT := Lib.hid hT
 have HR := Lib.hid (fun W (k : IsD W O d sz L) => read_any (tx (nm x)) (by rw [tx_size]; have := nm_len x; unfold maxLen; omega) W k)
 simp only [tx_list, hg, rdv] at HR
 have hop := fun W => fopen_yes x p W hx hp
 have hne : ∀ w, (binOp .neq 26 (.agg #[.int .i64 x.t, .int .i64 x.a, .int .i64 x.p, .int .i64 x.f]) (.agg #[.int .i64 x.t, .int .i64 x.a, .int .i64 x.p, .int .i64 x.f])).run Tryz.prog w = .ok (.bool false) w := fun w => by rw [neq_id]; simp
 clear h hT
 generalize tx (nm x) = N at *
 generalize tx (fr x p) = F at *
 generalize tx p = PP at *
 go_enter Tryz.func10, Tryz.ntmps10
 go_wp2_with (fail)
 refine (hri _).mono ?_
 rintro e w1 ⟨rfl, hb⟩
 have HB1 := Lib.hid (Below.next HB0.out hb)
 have HX1 := Lib.hid (HX.out.next hb)
 clear hb hri HX HB0
 have c0 := HX1.out.c 0 _ rfl; have c1 := HX1.out.c 1 _ rfl; have c2 := HX1.out.c 2 _ rfl; have c3 := HX1.out.c 3 _ rfl
 go_wp2_with (fail)
 refine (hnm _ (HT.out.next HB1.out)).mono ?_
 rintro e w2 ⟨rfl, hb⟩
 have HB2 := Lib.hid (Below.next HB1.out hb)
 have HX2 := Lib.hid (HX1.out.next hb)
 clear hb hnm c0 c1 c2 c3 HX1
 go_wp2_with (fail)
 refine (HR.out _ (HI.out.next HB2.out)).mono ?_
 rintro e w3 ⟨rfl, hb⟩
 have HB3 := Lib.hid (Below.next HB2.out hb)
 have HX3 := Lib.hid (HX2.out.next hb)
 clear hb HX2
 go_wp2_with (fail)
 refine (hop _).mono ?_
 rintro e w4 ⟨rfl, hb⟩
 have HB4 := Lib.hid (Below.next HB3.out hb)
 have HX4 := Lib.hid (HX3.out.next hb)
 clear hb HX3
 have HB5 := Lib.hid (HB4.out.alloc HB4.out.size (.cells #[.int .i64 x.t, .int .i64 x.a, .int .i64 x.p, .int .i64 x.f] 26))
 have c0 := HX4.out.c 0 _ rfl; have c1 := HX4.out.c 1 _ rfl; have c2 := HX4.out.c 2 _ rfl; have c3 := HX4.out.c 3 _ rfl
 have hlt4 := HX4.out.lt
 have hn4 : ¬ w.heap.size = w4.heap.size := by omega
 have hn4' : ¬ w4.heap.size = w.heap.size := by omega
 go_wp2_with (fail)
 go_ret2
 exact ⟨rfl, HB5.out⟩
set_option maxRecDepth 100000 in
set_option maxHeartbeats 4000000 in
theorem get_bad (x : Fd) (s : List UInt8) (c : Int) (w : World) (h : IsD w O d sz L) (hT : Tab w) (hx : rt x = true) (hs : s.length ≤ 1000000) (ho : opv s = ([], c)) (hc : c ≠ 0) (hg : gt (nm x) L = some s) :
 Calls Tryz.prog 10 #[.pointer (some ⟨d, 0, none⟩), .agg #[.int .i64 x.t, .int .i64 x.a, .int .i64 x.p, .int .i64 x.f]] w (Gives (.tuple #[.string ⟨#[]⟩, .int .i64 c]) w) := by
 have HX := Lib.hid (Blk.made w 26 [.int .i64 x.t, .int .i64 x.a, .int .i64 x.p, .int .i64 x.f] rfl)
 have HB0 := Lib.hid (box1 w (.cells #[.int .i64 x.t, .int .i64 x.a, .int .i64 x.p, .int .i64 x.f] 26))
 have hri := fun W => right_any x W
 rw [hx] at hri
 have hnm := fun W k => name_any x W k
 have HI := Lib.hid h; have HT := Lib.hid hT
 have HR := Lib.hid (fun W (k : IsD W O d sz L) => read_any (tx (nm x)) (by rw [tx_size]; have := nm_len x; unfold maxLen; omega) W k)
 simp only [tx_list, hg, rdv] at HR
 have hop := fun W => fopen_bad (tx s) c W (by rw [tx_size]; exact hs) (by rw [tx_list]; exact ho) hc
 have hcb : (c != 0) = true := by rw [bne_iff_ne]; exact hc
 clear h hT hc ho
 generalize tx (nm x) = N at *
 generalize tx s = F at *
 go_enter Tryz.func10, Tryz.ntmps10
 go_wp2_with (fail)
 refine (hri _).mono ?_
 rintro e w1 ⟨rfl, hb⟩
 have HB1 := Lib.hid (Below.next HB0.out hb)
 have HX1 := Lib.hid (HX.out.next hb)
 clear hb hri HX HB0
 have c0 := HX1.out.c 0 _ rfl; have c1 := HX1.out.c 1 _ rfl; have c2 := HX1.out.c 2 _ rfl; have c3 := HX1.out.c 3 _ rfl
 go_wp2_with (fail)
 refine (hnm _ (HT.out.next HB1.out)).mono ?_
 rintro e w2 ⟨rfl, hb⟩
 have HB2 := Lib.hid (Below.next HB1.out hb)
 clear hb hnm c0 c1 c2 c3 HX1
 go_wp2_with (fail)
 refine (HR.out _ (HI.out.next HB2.out)).mono ?_
 rintro e w3 ⟨rfl, hb⟩
 have HB3 := Lib.hid (Below.next HB2.out hb)
 clear hb
 go_wp2_with (fail)
 refine (hop _).mono ?_
 rintro e w4 ⟨rfl, hb⟩
 have HB4 := Lib.hid (Below.next HB3.out hb)
 clear hb
 have HB5 := Lib.hid (HB4.out.alloc HB4.out.size (.cells #[.int .i64 0, .int .i64 0, .int .i64 0, .int .i64 0] 26))
 go_wp2_with (fail)
 go_ret2
 exact ⟨rfl, HB5.out⟩
end
end Go.Proofs.YtchmepalhldpcaaGreatDoor.Fr
namespace Go.Proofs.YtchmepalhldpcaaGreatDoor.Fr
open Go.ChangeShapes Go.WideShapes Go.ChangeAt Go.RowKit Go.Shelf Go.Sort Go.Proofs Ov
def pcells (l : List Fd) : List Value := l.flatMap encI
theorem encI_len (p : Fd) : (encI p).length = 4 := rfl
theorem encI_one (p : Fd) : ∀ u ∈ encI p, u.oneCell' = true := by
 intro u hu
 unfold encI at hu
 simp only [List.mem_cons, List.not_mem_nil, or_false] at hu
 rcases hu with rfl | rfl | rfl | rfl <;> rfl
theorem pcells_snoc (l : List Fd) (p : Fd) : pcells (l ++ [p]) = pcells l ++ encI p := by
 unfold pcells; rw [List.flatMap_append]; simp
def pd (l : List Fd) (i : Nat) : Fd := (l[i]?).getD z0
theorem arr_at (l : List Fd) (i : Nat) : l.toArray[i]! = pd l i := by
 show l.toArray[i]! = (l[i]?).getD z0
 rw [getElem!_def]
 simp only [List.getElem?_toArray]
 cases l[i]? <;> rfl
theorem pd_at {l : List Fd} {i : Nat} (h : i < l.length) : pd l i = l[i] := by unfold pd; simp [h]
theorem pcells_at (l : List Fd) (i j : Nat) (hi : i < l.length) (hj : j < 4) : (pcells l)[i * 4 + j]? = (encI (pd l i))[j]? := by
 induction l generalizing i with
 | nil => simp at hi
 | cons n t ih =>
   show (encI n ++ pcells t)[i * 4 + j]? = _
   cases i with
   | zero =>
     rw [Nat.zero_mul, Nat.zero_add, List.getElem?_append_left (by show j < 4; exact hj)]; rfl
   | succ i =>
     rw [List.getElem?_append_right (by show 4 ≤ _; omega)]
     show (pcells t)[(i + 1) * 4 + j - 4]? = (encI (pd t i))[j]?
     rw [show (i + 1) * 4 + j - 4 = i * 4 + j by omega]
     exact ih i (by simpa using hi)
def Ids (w : World) (p : Option Addr) (l : List Fd) : Prop :=
 0 < l.length → ∃ B O, p = some ⟨B, O, none⟩ ∧ ∀ i j v, i < l.length → (encI (pd l i))[j]? = some v → w.cell? ⟨B, O + i * 4 + j, none⟩ = some v
def OwnL (B : Nat) (w : World) (p : Option Addr) (l : List Fd) : Prop :=
 (l = [] ∧ p = none) ∨ ∃ g, p = some ⟨g, 0, none⟩ ∧ B ≤ g ∧ g < w.heap.size ∧ HoldsK encI 4 w g 0 l.toArray
section
variable {w w' : World} {p : Option Addr} {l : List Fd} {B : Nat}
theorem Ids.nil (w : World) (p : Option Addr) : Ids w p [] := fun h => absurd h (Nat.lt_irrefl 0)
theorem Ids.next (h : Ids w p l) (k : Below w.heap.size w w') : Ids w' p l := fun hn => by
 obtain ⟨B, O, e, hc⟩ := h hn
 exact ⟨B, O, e, fun i j v hi hv => (k.cell (p := ⟨B, O + i * 4 + j, none⟩) (block_lt_of_cell (hc i j v hi hv))).trans (hc i j v hi hv)⟩
theorem Ids.cell {G O : Nat} (h : Ids w (some ⟨G, O, none⟩) l) {i : Nat} (hi : i < l.length) (j : Nat) (v : Value) (hv : (encI (pd l i))[j]? = some v) : w.cell? ⟨G, O + i * 4 + j, none⟩ = some v := by
 obtain ⟨B', O', e, hc⟩ := h (by omega)
 simp only [Option.some.injEq, Addr.mk.injEq, and_true] at e
 obtain ⟨rfl, rfl⟩ := e
 exact hc i j v hi hv
theorem Ids.shape (h : Ids w p l) (hl : 0 < l.length) : ∃ G O, p = some ⟨G, O, none⟩ := by
 obtain ⟨G, O, e, _⟩ := h hl
 exact ⟨G, O, e⟩
theorem holds_cell {g : Nat} (h : HoldsK encI 4 w g 0 l.toArray) {i j : Nat} {v : Value} (hi : i < l.length) (hv : (encI (pd l i))[j]? = some v) : w.cell? ⟨g, i * 4 + j, none⟩ = some v ∧ w.frozen? ⟨g, i * 4 + j, none⟩ = false := by
 obtain ⟨hj, e⟩ := List.getElem?_eq_some_iff.1 hv
 have hj' : j < 4 := hj
 have hc := h.cell (i := i) (c := j) (by simpa using hi) hj'
 rw [arr_at, Nat.zero_add, getElem!_pos (encI (pd l i)) j hj, e] at hc
 exact hc
theorem OwnL.ids (h : OwnL B w p l) : Ids w p l := fun hl => by
 rcases h with ⟨rfl, _⟩ | ⟨g, rfl, _, _, hh⟩
 · exact absurd hl (Nat.lt_irrefl 0)
 · exact ⟨g, 0, rfl, fun i j v hi hv => by rw [Nat.zero_add]; exact (holds_cell hh hi hv).1⟩
theorem holds_of_own {n : Nat} {g c : Nat} (h : w.ownsRow B 26 4 (.slice (some ⟨g, 0, none⟩) n c) n (pcells l)) (hn : n = l.length) : B ≤ g ∧ g < w.heap.size ∧ HoldsK encI 4 w g 0 l.toArray := by
 subst hn
 have hg : B ≤ g ∧ g < w.heap.size := h.lt g rfl
 refine ⟨hg.1, hg.2, fun t ht => ?_⟩
 rw [size_flatK] at ht
 have ht' : t < l.length * 4 := by simpa using ht
 have hi : t / 4 < l.length := by omega
 have hj : t % 4 < 4 := Nat.mod_lt _ (by omega)
 have e : t = t / 4 * 4 + t % 4 := by omega
 rw [get_flatK _ _ _ _ ht, arr_at, Nat.zero_add]
 refine ⟨?_, ?_⟩
 · rw [h.cellAt t (by omega)]
   conv => lhs; rw [e]
   rw [pcells_at l _ _ hi hj, getElem!_pos (encI (pd l (t / 4))) (t % 4) hj]
   exact List.getElem?_eq_getElem hj
 · rcases h.2 with ⟨e0, _⟩ | ⟨g', cap, cur, e0, _, hh, _⟩
   · cases e0
   · injection e0 with e1 _ _
     injection e1 with e1
     injection e1 with e1
     subst e1
     simp [World.frozen?, hh]
theorem below_sort {C : Nat} {w0 : World} {g n : Nat} {d : Array Fd} {os : Array Obj} (h : Below C w0 w) (hg : C ≤ g) (hC : C ≤ w.heap.size) : Below C w0 (sortWorldK encI 4 w g 0 n d os) := by
 have h1 : Below C w0 (putRowK encI 4 (Sort.ahead w n) g 0 d) := Lib.below_putRow (enc := id) h hg
 refine ⟨h1.os, h1.tape, h1.output, ?_, fun k hk => ?_⟩
 · unfold sortWorldK; rw [size_grow]; exact Nat.le_trans h1.size (Nat.le_add_right _ _)
 · unfold sortWorldK
   rw [heap_grow_old _ _ (by rw [size_putRowK]; exact Nat.lt_of_lt_of_le hk hC)]
   exact h1.block k hk
end
def st (l : List Fd) : List Fd := l.mergeSort fun x y => !(ltOf cf) y x
theorem st_perm (l : List Fd) : (st l).Perm l := List.mergeSort_perm _ _
theorem st_len (l : List Fd) : (st l).length = l.length := (st_perm l).length_eq
theorem mem_st {l : List Fd} {x : Fd} : x ∈ st l ↔ x ∈ l := (st_perm l).mem_iff
theorem st_ord {l : List Fd} (hn : l.Nodup) : Ord (st l) := by
 have h1 : (st l).Pairwise fun x y => (!(ltOf cf) y x) = true := List.pairwise_mergeSort (fun a b c h1 h2 => by
  unfold ltOf at *
  simp only [Bool.not_eq_true', decide_eq_false_iff_not, Int.not_lt] at *
  have a1 : cf a b ≤ 0 := by rw [cf_flip]; omega
  have a2 : cf b c ≤ 0 := by rw [cf_flip]; omega
  have := (lx_trans (l := ns a) (m := ns b) (n := ns c) rfl rfl a1 a2).1
  have h3 : cf a c ≤ 0 := this
  rw [cf_flip]; omega) (fun a b => by
  unfold ltOf
  simp only [Bool.or_eq_true, Bool.not_eq_true', decide_eq_false_iff_not, Int.not_lt]
  rw [cf_flip b a]; omega) l
 have h2 : (st l).Nodup := (st_perm l).nodup_iff.2 hn
 unfold Ord
 refine (h1.and h2).imp fun {x y} h => ?_
 obtain ⟨h3, h4⟩ := h
 unfold ltOf at h3
 simp only [Bool.not_eq_true', decide_eq_false_iff_not, Int.not_lt] at h3
 rw [cf_flip] at h3
 have : cf x y ≠ 0 := fun e => h4 (cf_zero e)
 omega
theorem sort_own (l : List Fd) (g c : Nat) (w : World) (hg : g < w.heap.size) (h : HoldsK encI 4 w g 0 l.toArray) (hl : l.length < 4611686018427387904) :
 Calls Tryz.prog 26 #[.slice (some ⟨g, 0, none⟩) l.length c, .func (.func 27) #[] #[]] w fun e w' => e = .returned (.tuple #[]) ∧ HoldsK encI 4 w' g 0 (st l).toArray ∧ g < w'.heap.size ∧
  ∀ (C : Nat) (w0 : World), Below C w0 w → C ≤ g → Below C w0 w' := by
 have hz : l.toArray.size = l.length := by simp
 have hs := sort_ids g 0 c l.toArray w h hg (by rw [hz]; exact hl)
 rw [hz] at hs
 refine hs.mono ?_
 rintro e w' ⟨rfl, n, os, rfl⟩
 have hsz : ((st l).toArray).size = l.toArray.size := by simp [st_len]
 refine ⟨rfl, ?_, ?_, fun C w0 hb hC => below_sort hb hC (by omega)⟩
 · exact holdsK_grow _ _ _ _ _ _ _ (by rw [size_putRowK]; exact hg) (holdsK_putRowK _ _ _ _ _ _ _ (holdsK_ahead _ _ _ _ _ _ _ h) hsz)
 · unfold sortWorldK
   rw [size_grow, size_putRowK]
   exact Nat.lt_of_lt_of_le hg (Nat.le_add_right _ _)
end Go.Proofs.YtchmepalhldpcaaGreatDoor.Fr
namespace Go.Proofs.YtchmepalhldpcaaGreatDoor.Fr
open Go.ChangeShapes Go.WideShapes Go.ChangeAt Go.RowKit Go.Sort Ov Dk Cr
abbrev Ls := List (List UInt8 × List UInt8)
def Gd (e : List UInt8 × List UInt8) (x : Fd) : Prop := rt x = true ∧ nm x = e.1 ∧ ∃ p, p.length ≤ 900000 ∧ e.2 = fr x p
theorem Gd.one {e : List UInt8 × List UInt8} {x y : Fd} (h : Gd e x) (k : Gd e y) : x = y := nm_inj h.1 k.1 (h.2.1.trans k.2.1.symm)
open Classical in
noncomputable def gi (e : List UInt8 × List UInt8) : Option Fd := if h : ∃ x, Gd e x then some h.choose else none
theorem gi_some {e : List UInt8 × List UInt8} {x : Fd} (h : Gd e x) : gi e = some x := by
 have hx : ∃ x, Gd e x := ⟨x, h⟩
 unfold gi; rw [dif_pos hx]; exact congrArg some (hx.choose_spec.one h)
theorem gi_none {e : List UInt8 × List UInt8} (h : ∀ x, ¬ Gd e x) : gi e = none := by
 unfold gi; exact dif_neg fun ⟨x, hx⟩ => h x hx
theorem gi_spec {e : List UInt8 × List UInt8} {x : Fd} (h : gi e = some x) : Gd e x := by
 unfold gi at h
 split at h
 · rename_i hx; injection h with h; rw [← h]; exact hx.choose_spec
 · cases h
noncomputable def got (L : Ls) : List Fd := L.filterMap gi
theorem mem_got {L : Ls} {x : Fd} : x ∈ got L ↔ ∃ e ∈ L, Gd e x := by
 unfold got
 rw [List.mem_filterMap]
 exact ⟨fun ⟨e, he, h⟩ => ⟨e, he, gi_spec h⟩, fun ⟨e, he, h⟩ => ⟨e, he, gi_some h⟩⟩
theorem got_take {L : Ls} {k : Nat} (h : k < L.length) : got (L.take (k + 1)) = got (L.take k) ++ (gi L[k]).toList := by
 unfold got
 rw [List.take_succ_eq_append_getElem h, List.filterMap_append]
 cases hg : gi L[k] <;> simp [hg]
theorem got_len (L : Ls) : (got L).length ≤ L.length := List.length_filterMap_le _ _
theorem got_nodup {L : Ls} (h : Srt L) : (got L).Nodup := by
 unfold got
 rw [List.Nodup, List.pairwise_filterMap]
 refine (srt_ne h).imp fun {e f} hne x hx y hy hxy => ?_
 subst hxy
 exact hne ((gi_spec hx).2.1.symm.trans (gi_spec hy).2.1)
def OkD (L : Ls) : Prop := ∀ e ∈ L, ∀ x, rt x = true → nm x = e.1 → (∃ p, p.length ≤ 900000 ∧ e.2 = fr x p) ∨ (∃ c, opv e.2 = ([], c) ∧ c ≠ 0 ∧ e.2.length ≤ 1000000)
theorem bad_no {e : List UInt8 × List UInt8} {c : Int} (h : opv e.2 = ([], c)) (hc : c ≠ 0) (x : Fd) : ¬ Gd e x := fun ⟨_, _, p, _, hp⟩ => by
 rw [hp, show fr x p = sl (body x p) from rfl, opv_sl] at h
 injection h with _ h
 exact hc h.symm
noncomputable def scn (L : Ls) : List Fd := st (got L)
theorem mem_scn {L : Ls} {x : Fd} : x ∈ scn L ↔ ∃ e ∈ L, Gd e x := by unfold scn; rw [mem_st, mem_got]
theorem scn_ord {L : Ls} (h : Srt L) : Ord (scn L) := st_ord (got_nodup h)
theorem isd_srt {w : World} {O : Nat → Prop} {d sz : Nat} {L : Ls} (h : IsD w O d sz L) : Srt L ∧ (∀ e ∈ L, e.1 ≠ [] ∧ e.1.length ≤ 64) ∧ L.length ≤ 262144 := by
 obtain ⟨m, E, h, rfl⟩ := h
 refine ⟨h.sL, fun e he => ?_, by have := h.len; simpa [mp] using this⟩
 obtain ⟨y, hy, rfl⟩ := List.mem_map.1 he
 exact h.n y hy
end Go.Proofs.YtchmepalhldpcaaGreatDoor.Fr
namespace Go.Proofs.YtchmepalhldpcaaGreatDoor.Dk
open Go.ChangeShapes Go.WideShapes Go.ChangeAt Go.RowKit Go.Sort Go.Maps Go.Proofs Ov
theorem keys_plain (mb : Option Nat) (w : World) : Calls Tryz.prog 49 #[.map mb] w fun e w' => e = .returned (.func (.func 66) #[] #[.pointer (some ⟨w.heap.size, 0, none⟩)]) ∧ w' = w.alloc (.cells #[.map mb] 53) :=
 callsIn_wide.1 (keys_in mb w)
theorem srt_le {α : Type} {l : List (List UInt8 × α)} (h : Srt l) : (l.map (·.1)).Pairwise fun a b => decide (a ≤ b) = true := by
 rw [List.pairwise_map]
 exact h.imp fun hb => decide_eq_true (bf_le hb)
theorem sorted_names {E : List Et} (h : Srt E) {ss : List (List UInt8)} (hp : ss.Perm (strKeys (dm (mp (·.2) E)))) : ss.mergeSort (fun x y => decide (x ≤ y)) = E.map (·.1) := by
 rw [mergeSort_of_perm hp, dm_keys, show (mp (·.2) E).map (·.1) = E.map (·.1) by unfold mp; rw [List.map_map]; rfl]
 exact List.mergeSort_of_pairwise (srt_le h)
theorem sorted_plain {O : Nat → Prop} {d m sz : Nat} {E : List Et} {w : World} (h : Dk w O d m sz E) :
 Calls Tryz.prog 48 #[.func (.func 66) #[] #[.pointer (some ⟨w.heap.size, 0, none⟩)]] (w.alloc (.cells #[.map (some m)] 53)) fun e w' => ∃ v, e = .returned v ∧
  w'.ownsRow w.heap.size 9 1 v E.length ((E.map (·.1)).map encStr) ∧ Below w.heap.size w w' := by
 have hl : Maps.size (dm (mp (·.2) E)) = E.length := by rw [dm_size]; simp [mp]
 have hn := h.len
 refine (callsIn_wide.1 (sorted_in m E.length (dm (mp (·.2) E)) RV w h.o (by rw [hl]; unfold maxLen; omega) (by rw [hl]; omega))).mono ?_
 rintro e w' ⟨v, ss, rfl, hS, hrow, _, hb⟩
 rw [sorted_names h.s hS] at hrow
 have hs : ss.length = E.length := by rw [hS.length_eq, dm_keys]; simp [mp]
 rw [hs] at hrow
 exact ⟨v, rfl, World.ownsRow.mono hrow (by omega), (box1 w _).trans (hb.mono (by simp))⟩
theorem own_slice {w : World} {base size n : Nat} {e : TypeId} {v : Value} {xs : List Value} (h : w.ownsRow base e size v n xs) : ∃ A c, v = .slice A n c ∧ n ≤ c := by
 rcases h.2 with ⟨rfl, rfl⟩ | ⟨g, cap, cur, rfl, _, _, hc, _⟩
 · exact ⟨none, 0, rfl, Nat.le_refl _⟩
 · exact ⟨_, cap, rfl, hc⟩
def nms (L : List (List UInt8 × List UInt8)) : List Value := L.map fun x => encStr x.1
def NamesQ (L : List (List UInt8 × List UInt8)) (w : World) (e : Ending) (w' : World) : Prop := ∃ v, e = .returned v ∧ w'.ownsRow w.heap.size 9 1 v L.length (nms L) ∧ Below w.heap.size w w'
theorem nms_at (L : List (List UInt8 × List UInt8)) (i : Nat) (h : i < L.length) : (nms L)[i]? = some (.string (tx L[i].1)) := by simp [nms, h]; rfl
set_option maxHeartbeats 4000000 in
set_option maxRecDepth 100000 in
theorem names_any {O : Nat → Prop} {d sz : Nat} {L : List (List UInt8 × List UInt8)} (w : World) (h : IsD w O d sz L) :
 Calls Tryz.prog 24 #[.pointer (some ⟨d, 0, none⟩)] w (NamesQ L w) := by
 obtain ⟨m, E, h, rfl⟩ := h
 have c1 := h.h.c 1 _ rfl
 have hc := sorted_plain h
 have hlen := h.len
 have hn := h.n
 have e1 : (E.map (·.1)).map encStr = nms (mp (·.1) E) := by unfold nms mp; rw [List.map_map, List.map_map]; rfl
 have e2 : E.length = (mp (·.1) E).length := by simp [mp]
 have hn' : ∀ x ∈ mp (·.1) E, x.1.length ≤ 64 := fun x hx => by
  obtain ⟨y, hy, rfl⟩ := List.mem_map.1 hx
  exact (hn y hy).2
 rw [e1, e2] at hc
 rw [e2] at hlen
 have HC := Lib.hid hc; have HN := Lib.hid hn'
 clear h hc hn hn' e1 e2
 generalize mp (·.1) E = L at *
 go_enter Tryz.func24, Tryz.ntmps24
 go_wp2_with (fail)
 refine (keys_plain (some m) w).mono ?_
 rintro e w1 ⟨rfl, hw⟩
 subst hw
 go_wp2_with (fail)
 refine HC.out.mono ?_
 rintro e w1 ⟨v, rfl, hrow, hb⟩
 have HB := Lib.hid hb; have HO := Lib.hid hrow
 obtain ⟨A, c, rfl, hlc⟩ := own_slice hrow
 clear hb hrow HC c1
 go_wp2_with (fail)
 go_loopw [16, 4, 5] (fun I _ _ wr => ∃ i : Nat, i ≤ L.length ∧ I = .int .i64 (i : Int) ∧ wr.ownsRow w.heap.size 9 1 (.slice A L.length c) L.length (nms L) ∧ Below w.heap.size w wr) (fun I _ _ _ => L.length - (intOf I).toNat)
 case atStart => exact ⟨0, by omega, rfl, HO.out, HB.out⟩
 case round =>
  obtain ⟨i, hi, rfl, ho, hb⟩ := hrel
  have HO2 := Lib.hid ho; have HB2 := Lib.hid hb
  clear HO HB hb
  by_cases hlt : i < L.length
  · obtain ⟨g, cap, e⟩ : ∃ g cap, (Value.slice A L.length c) = .slice (some ⟨g, 0, none⟩) L.length cap := by
     rcases ho.2 with ⟨_, h0⟩ | ⟨g, cap, cur, e, _⟩
     · omega
     · exact ⟨g, cap, e⟩
    injection e with e1 _ e2
    subst e1; subst e2
    have hcell := ho.cellAt i (by omega)
    rw [nms_at L i hlt] at hcell
    have hf := ho.frozenAt i
    have hz : L[i].1.length ≤ 64 := HN.out _ (List.getElem_mem _)
    have HS2 : Hid ((nms L).set i (.string (tx L[i].1)) = nms L) := Lib.hid (by
     apply List.ext_getElem?
     intro j
     by_cases e : i = j
     · subst e
       rw [List.getElem?_set_self (by unfold nms; simpa using hlt), nms_at L i hlt]
     · rw [List.getElem?_set_ne e])
    have HG : Hid (w.heap.size ≤ g) := Lib.hid (ho.lt g rfl).1
    have hb2 := HB2.out
    obtain ⟨y, hy⟩ : ∃ y, tx L[i].1 = y := ⟨_, rfl⟩
    have HYC : Hid ((nms L)[i]? = some (.string y)) := Lib.hid (by rw [nms_at L i hlt, hy])
    have hz2 : (tx L[i].1).size ≤ 64 := by rw [tx_size]; exact hz
    rw [hy] at hcell HS2 hz2
    clear hy hz
    have HCL := Lib.hid (clone_any y wr (by omega))
    have HB3 := Lib.hid hb2
    clear ho hb2 hz2
    go_wp2_with (fail)
    refine HCL.out.mono ?_
    rintro e w3 ⟨rfl, hb3⟩
    have ho3 : w3.ownsRow w.heap.size 9 1 (.slice (some ⟨g, 0, none⟩) L.length c) L.length (nms L) := own_kp HO2.out (Below.kp (fun _ => False) hb3) (fun _ _ h => h)
    have hf3 := ho3.frozenAt i
    have hcell3 := ho3.cellAt i (by omega)
    rw [HYC.out] at hcell3
    have HS := Lib.hid (ho3.stored i (.string y))
    have HB4 := Lib.hid (Below.next HB3.out hb3)
    clear ho3 hb3
    go_wp2_with (fail)
    go_roundw
    case rel => exact ⟨i + 1, by omega, by go_num, by have := HS.out.1; rw [HS2.out] at this; exact this, HB4.out.setCell HG.out _⟩
    case measure => simp [intOf]; omega
  · obtain rfl : i = L.length := by omega
    go_wp2_with (fail)
    go_ret
    exact ⟨_, rfl, HO2.out, HB2.out⟩
end Go.Proofs.YtchmepalhldpcaaGreatDoor.Dk
namespace Go.Proofs.YtchmepalhldpcaaGreatDoor.Fr
open Go.ChangeShapes Go.WideShapes Go.ChangeAt Go.RowKit Go.Sort Ov Dk Cr
theorem infoI : (Tryz.prog.info? 26).map (fun i => (i.zero, i.size, i.bytes)) = some (some (.agg #[.int .i64 0, .int .i64 0, .int .i64 0, .int .i64 0]), 4, 32) := by kernel_rfl
theorem id_news (W : World) (x : Fd) (ty : TypeId) (b : Nat) (hb : b = W.heap.size) : ∀ j u, (encI x)[j]? = some u → (W.alloc (.cells #[.int .i64 x.t, .int .i64 x.a, .int .i64 x.p, .int .i64 x.f] ty)).cell? ((⟨b, 0, none⟩ : Addr).add j) = some u := by
 intro j u hu
 subst hb
 have e : (⟨W.heap.size, 0, none⟩ : Addr).add j = ⟨W.heap.size, j, none⟩ := by
  unfold Addr.add
  split
  · rename_i h; subst h; rfl
  · simp
 rw [e]
 exact (Blk.made W ty (encI x) rfl).c j u hu
theorem own_next {w w' : World} {base size n : Nat} {e : TypeId} {v : Value} {xs : List Value} (h : w.ownsRow base e size v n xs) (k : Below w.heap.size w w') : w'.ownsRow base e size v n xs := own_kp h (Below.kp (fun _ => False) k) (fun _ _ h => h)
def ScanQ (l : List Fd) (w : World) (e : Ending) (w' : World) : Prop := ∃ A c, e = .returned (.slice A l.length c) ∧ Ids w' A l ∧ Below w.heap.size w w'
set_option maxRecDepth 100000 in
set_option maxHeartbeats 16000000 in
theorem scan_any {O : Nat → Prop} {d sz : Nat} {L : Ls} (w : World) (h : IsD w O d sz L) (hT : Tab w) (hE : Ers w) (ho : OkD L) :
 Calls Tryz.prog 11 #[.pointer (some ⟨d, 0, none⟩)] w (ScanQ (scn L) w) := by
 obtain ⟨hsrt, hnl, hll⟩ := isd_srt h
 have HSRT := Lib.hid hsrt; have HNL := Lib.hid hnl; have HI := Lib.hid h; have HT := Lib.hid hT; have HEr := Lib.hid hE; have HO := Lib.hid ho
 have hna := names_any w h
 obtain ⟨i0, hi0, hi1, hi2, hi3⟩ := info_parts infoI
 have HI0 := Lib.hid hi0; have HI1 := Lib.hid hi1; have HI2 := Lib.hid hi2; have HI3 := Lib.hid hi3
 clear hi0 hi1 hi2 hi3 hsrt hnl h hT hE ho
 go_enter Tryz.func11, Tryz.ntmps11
 go_wp2_with (fail)
 refine hna.mono ?_
 rintro e w1 ⟨vn, rfl, hon, hb⟩
 obtain ⟨NA, nc, rfl, hnc⟩ := own_slice hon
 have HNS := Lib.hid (strs_row hon (f := nmf L) fun i hi => by rw [nms_at L i hi, nmf_at hi])
 have HB1 := Lib.hid hb
 clear hon hb hna
 go_wp2_with (fail)
 go_loopw [3, 13] (fun v i wr => ∃ (k : Nat) (A : Option Addr) (c n : Nat), k ≤ L.length ∧ i = .int .i64 (k : Int) ∧ v = .slice A n c ∧ Hid (n = (got (L.take k)).length) ∧ Hid (wr.ownsRow w1.heap.size 26 4 (.slice A n c) n (pcells (got (L.take k)))) ∧ Hid (Below w1.heap.size w1 wr)) (fun _ i _ => L.length - (intOf i).toNat)
 case atStart => exact ⟨0, none, 0, 0, Nat.zero_le _, rfl, rfl, Lib.hid rfl, Lib.hid (World.ownsRow_nil _ _ _ _), Lib.hid (Below.refl _ _)⟩
 case round =>
  obtain ⟨k, A, c, n, hk, rfl, rfl, hn, HOR, HB⟩ := hrel
  by_cases hlt : k < L.length
  · have hltz : (k : Int) < (L.length : Int) := by omega
    have hG := got_take hlt
    have hmem : L[k] ∈ L := List.getElem_mem hlt
    have hne := HNL.out _ hmem
    have hgt : gt L[k].1 L = some L[k].2 := gt_mem HSRT.out (by exact hmem)
    have hokd := HO.out _ hmem
    have hnk : n ≤ 262144 := by rw [hn.out]; exact Nat.le_trans (got_len _) (by rw [List.length_take]; omega)
    have HW := Lib.hid (Below.next HB1.out HB.out)
    obtain ⟨NB, NO, rfl, hcells⟩ := HNS.out (by omega)
    have ck : wr.cell? ⟨NB, NO + k, none⟩ = some (.string (tx L[k].1)) := by
     rw [HB.out.cell (p := ⟨NB, NO + k, none⟩) (block_lt_of_cell (hcells k hlt)), hcells k hlt, nmf_at hlt]
    clear hcells
    have hnd := fun W h1 h2 => named_any (tx L[k].1) (by rw [tx_size]; omega) W h1 h2
    simp only [tx_list] at hnd
    generalize L[k] = en at *
    go_wp2_with (fail)
    refine (hnd _ (HT.out.next HW.out) (HEr.out.next HW.out)).mono ?_
    rintro e w2 ⟨hb, hq⟩
    have HB2 := Lib.hid (Below.next HB.out hb)
    have HW2 := Lib.hid (Below.next HB1.out HB2.out)
    have HOR2 := Lib.hid (own_next HOR.out hb)
    clear hb hnd HOR HB HW ck
    rcases hq with ⟨x, hx, hnx, rfl⟩ | ⟨hno, rfl⟩
    · have HX3 := Lib.hid (Blk.made w2 26 [.int .i64 x.t, .int .i64 x.a, .int .i64 x.p, .int .i64 x.f] rfl)
      have HB3 := Lib.hid (HB2.out.alloc HB2.out.size (.cells #[.int .i64 x.t, .int .i64 x.a, .int .i64 x.p, .int .i64 x.f] 26))
      have HW3 := Lib.hid (HW2.out.alloc HW2.out.size (.cells #[.int .i64 x.t, .int .i64 x.a, .int .i64 x.p, .int .i64 x.f] 26))
      have HOR3 := Lib.hid (HOR2.out.alloc (.cells #[.int .i64 x.t, .int .i64 x.a, .int .i64 x.p, .int .i64 x.f] 26))
      have hgx : gt (nm x) L = some en.2 := by rw [hnx]; exact hgt
      rcases hokd x hx hnx with ⟨p, hp, hpe⟩ | ⟨cc, hcc, hc0, hcl⟩
      · have hge := fun W h1 h2 => get_yes (O := O) (d := d) (sz := sz) (L := L) x p W h1 h2 hx hp (by rw [hgx, hpe])
        have HG' : Hid (got (L.take (k + 1)) = got (L.take k) ++ [x]) := by show _ = _; rw [hG, gi_some ⟨hx, hnx, p, hp, hpe⟩]; rfl
        have hn' : Hid (n + 1 = (got (L.take (k + 1))).length) := by show _ = _; rw [HG'.out, List.length_append, ← hn.out]; rfl
        clear hgx hpe hG hokd
        generalize tx p = PP at *
        go_wp2_with (fail)
        refine (hge _ (HI.out.next HW3.out) (HT.out.next HW3.out)).mono ?_
        rintro e w4 ⟨rfl, hb⟩
        have HX4 := Lib.hid (HX3.out.next hb)
        have HB4 := Lib.hid (Below.next HB3.out hb)
        have HW4 := Lib.hid (Below.next HW3.out hb)
        have HOR4 := Lib.hid (own_next HOR3.out hb)
        clear hb hge HX3 HB3 HW3 HOR3 HOR2 HB2 HW2
        have c0 := HX4.out.c 0 _ rfl; have c1 := HX4.out.c 1 _ rfl; have c2 := HX4.out.c 2 _ rfl; have c3 := HX4.out.c 3 _ rfl
        have hws := HB4.out.size
        go_wp2_with (at_builtin; refine wpList_append_own _ rfl _ _ 35 rfl w1.heap.size 26 i0 (.agg #[.int .i64 0, .int .i64 0, .int .i64 0, .int .i64 0]) 4 32 Tryz.underlying35 HI0.out HI1.out HI2.out HI3.out rfl (by decide) _ _ _ rfl (HOR4.out.alloc _) ⟨w4.heap.size, 0, none⟩ 1 1 (encI x) rfl rfl (id_news _ _ _ _ (by simp)) (encI_one _) ?c3 ?c4 ?c5 ?_)
        case c3 => unfold maxLen; omega
        case c4 => omega
        case c5 => simp; omega
        intro v' w5 hown' hgrow _
        have hOR5 : w5.ownsRow w1.heap.size 26 4 v' (n + 1) (pcells (got (L.take (k + 1)))) := by rw [HG'.out, pcells_snoc]; exact hown'
        obtain ⟨A', c', rfl, _⟩ := own_slice hOR5
        have HOR5 := Lib.hid hOR5
        have HB5 : Hid (Below w1.heap.size w1 w5) := ((HB4.out.alloc hws (.cells #[.int .i64 x.t, .int .i64 x.a, .int .i64 x.p, .int .i64 x.f] 26)).grown hgrow (by simp; omega) (fun g e => (HOR4.out.lt g e).1))
        clear hown' hgrow hOR5
        go_wp2_with (fail)
        go_roundw
        · exact ⟨k + 1, A', c', n + 1, by omega, by first | rfl | (congr 1; omega), rfl, hn', HOR5, HB5⟩
        · simp [intOf]; omega
      · have hge := fun W h1 h2 => get_bad (O := O) (d := d) (sz := sz) (L := L) x en.2 cc W h1 h2 hx hcl hcc hc0 hgx
        have HG' : Hid (got (L.take (k + 1)) = got (L.take k)) := by show _ = _; rw [hG, gi_none (fun y => bad_no hcc hc0 y)]; simp
        have hcb : (cc == 0) = false := by rw [beq_eq_false_iff_ne]; exact hc0
        clear hgx hG hokd hcc
        go_wp2_with (fail)
        refine (hge _ (HI.out.next HW3.out) (HT.out.next HW3.out)).mono ?_
        rintro e w4 ⟨rfl, hb⟩
        have HB4 := Lib.hid (Below.next HB3.out hb)
        have HOR4 := Lib.hid (own_next HOR3.out hb)
        clear hb hge HX3 HB3 HW3 HOR3 HOR2 HB2 HW2
        go_wp2_with (fail)
        go_roundw
        · exact ⟨k + 1, A, c, n, by omega, by first | rfl | (congr 1; omega), rfl, by rw [HG'.out]; exact hn, by rw [HG'.out]; exact HOR4, HB4⟩
        · simp [intOf]; omega
    · have HB3 := Lib.hid (HB2.out.alloc HB2.out.size (.cells #[.int .i64 0, .int .i64 0, .int .i64 0, .int .i64 0] 26))
      have HOR3 := Lib.hid (HOR2.out.alloc (.cells #[.int .i64 0, .int .i64 0, .int .i64 0, .int .i64 0] 26))
      have HG' : Hid (got (L.take (k + 1)) = got (L.take k)) := by show _ = _; rw [hG, gi_none (fun y hy => hno y hy.1 hy.2.1)]; simp
      clear hG hokd HB2 HOR2 HW2
      go_wp2_with (fail)
      go_roundw
      · exact ⟨k + 1, A, c, n, by omega, by first | rfl | (congr 1; omega), rfl, by rw [HG'.out]; exact hn, by rw [HG'.out]; exact HOR3, HB3⟩
      · simp [intOf]; omega
  · obtain rfl : k = L.length := by omega
    have hE : L.take L.length = L := List.take_of_length_le (Nat.le_refl _)
    have hnl2 : n = (got L).length := by have := hn.out; rw [hE] at this; exact this
    have hOW : wr.ownsRow w1.heap.size 26 4 (.slice A n c) n (pcells (got L)) := by have := HOR.out; rw [hE] at this; exact this
    have hsl : (scn L).length = n := by unfold scn; rw [st_len, hnl2]
    have hle : n ≤ 262144 := by rw [hnl2]; exact Nat.le_trans (got_len _) hll
    have HSL := Lib.hid hsl
    have HWB := Lib.hid (Below.next HB1.out HB.out)
    by_cases h0 : n = 0
    · subst h0
      have hE2 : Hid (scn L = []) := List.eq_nil_of_length_eq_zero hsl
      clear hn hnl2 hOW hsl HOR
      go_wp2_with (fail)
      refine (sort_none A c _ _).mono ?_
      rintro e w2 ⟨rfl, rfl⟩
      go_wp2_with (fail)
      go_ret
      exact ⟨A, c, by rw [HSL.out]; rfl, by rw [hE2.out]; exact Ids.nil _ _, HWB.out⟩
    · obtain ⟨g, hg⟩ : ∃ g, A = some ⟨g, 0, none⟩ := by
       rcases hOW.2 with ⟨e, _⟩ | ⟨g, cap, cur, e, _⟩
       · injection e with e1 e2 e3; omega
       · injection e with e1 e2 e3; exact ⟨g, e1⟩
      subst hg
      obtain ⟨hg1, hg2, hhold⟩ := holds_of_own hOW hnl2
      have hso := sort_own (got L) g c wr hg2 hhold (by omega)
      rw [← hnl2] at hso
      clear hn hnl2 hOW hsl HOR hhold
      go_wp2_with (fail)
      refine hso.mono ?_
      rintro e w2 ⟨rfl, hh, hg3, hbl⟩
      have HB2 : Hid (Below w.heap.size w w2) := hbl w.heap.size w HWB.out (Nat.le_trans HB1.out.size hg1)
      have HH := Lib.hid hh
      clear hh hbl hso
      go_wp2_with (fail)
      go_ret
      exact ⟨some ⟨g, 0, none⟩, c, by rw [HSL.out]; rfl, OwnL.ids (B := g) (.inr ⟨g, rfl, Nat.le_refl _, hg3, HH.out⟩), HB2.out⟩
section
variable {a b : Fd} {p : List UInt8}
theorem name_ok {x : Fd} (h : rt x = true) : ¬ (nm x = [] ∨ 64 < (nm x).length) := by
 have h2 := nm_len2 x
 exact fun k => k.elim (nm_ne.2 h) (by omega)
end
def Mn (w : World) (d sz : Nat) (L : Ls) (w' : World) : Prop := ∃ O, IsD w' O d sz L ∧ (∀ b, O b → w.heap.size ≤ b) ∧ Below w.heap.size w w'
section
variable {w w' w'' : World} {d sz : Nat} {L L' : Ls}
theorem Mn.below (h : Mn w d sz L w') : Below w.heap.size w w' := by obtain ⟨_, _, _, h⟩ := h; exact h
theorem Mn.next (h : Mn w d sz L w') (k : Below w'.heap.size w' w'') : Mn w d sz L w'' := by
 obtain ⟨O, h1, h2, h3⟩ := h
 exact ⟨O, h1.next k, h2, Below.next h3 k⟩
theorem Mn.turn {O : Nat → Prop} (hO : ∀ b, O b → w.heap.size ≤ b) (hb : Below w.heap.size w w') (ht : TurnsTo O d sz L' w' w'') : Mn w d sz L' w'' := by
 have hb2 := ht.below hb hO
 obtain ⟨O', h1, _, h3⟩ := ht
 exact ⟨O', h1, fun b h => (h3 b h).elim (hO b) (Nat.le_trans hb.size), hb2⟩
theorem mn_scan (h : Mn w d sz L w') (hT : Tab w') (hE : Ers w') (ho : OkD L) {l : List Fd} (hl : scn L = l) :
 Calls Tryz.prog 11 #[.pointer (some ⟨d, 0, none⟩)] w' fun e w'' => ∃ A c, e = .returned (.slice A l.length c) ∧ Ids w'' A l ∧ Mn w d sz L w'' := by
 have h0 := h
 obtain ⟨O, h1, h2, h3⟩ := h
 subst hl
 exact (scan_any w' h1 hT hE ho).mono fun _ _ ⟨A, c, he, hi, hb⟩ => ⟨A, c, he, hi, h0.next hb⟩
end
end Go.Proofs.YtchmepalhldpcaaGreatDoor.Fr
namespace Go.Proofs.YtchmepalhldpcaaGreatDoor.Fr
open Go.ChangeShapes Go.WideShapes Go.ChangeAt Go.RowKit Go.Sort Ov Dk Cr
open Classical in
noncomputable def dlb (tk at' : Int) (e : List UInt8 × List UInt8) : Bool := decide (∃ x, rt x = true ∧ nm x = e.1 ∧ x.t = tk ∧ x.a = at')
theorem dlb_yes {tk at' : Int} {e : List UInt8 × List UInt8} {x : Fd} (hx : rt x = true) (hn : nm x = e.1) : dlb tk at' e = ((x.t == tk) && (x.a == at')) := by
 unfold dlb
 rw [Bool.eq_iff_iff]
 simp only [decide_eq_true_eq, Bool.and_eq_true, beq_iff_eq]
 constructor
 · rintro ⟨y, hy, hyn, h1, h2⟩
   rw [nm_inj hx hy (hn.trans hyn.symm)]; exact ⟨h1, h2⟩
 · rintro ⟨h1, h2⟩; exact ⟨x, hx, hn, h1, h2⟩
open Classical in
theorem dlb_no {tk at' : Int} {e : List UInt8 × List UInt8} (h : ∀ x, rt x = true → nm x ≠ e.1) : dlb tk at' e = false := by
 unfold dlb
 exact decide_eq_false fun ⟨x, hx, hn, _⟩ => h x hx hn
noncomputable def keep (tk at' : Int) (L : Ls) : Ls := L.filter fun e => !dlb tk at' e
noncomputable def cntd (tk at' : Int) (L : Ls) : Nat := (L.filter (dlb tk at')).length
noncomputable def restd (tk at' : Int) (L : Ls) (k : Nat) : Ls := keep tk at' (L.take k) ++ L.drop k
theorem restd_end (tk at' : Int) (L : Ls) : restd tk at' L L.length = keep tk at' L := by unfold restd; rw [List.take_length, List.drop_length, List.append_nil]
theorem restd_no {tk at' : Int} {L : Ls} {k : Nat} (hk : k < L.length) (h : dlb tk at' L[k] = false) : restd tk at' L (k + 1) = restd tk at' L k := by
 unfold restd keep
 rw [List.take_succ_eq_append_getElem hk, List.filter_append, List.drop_eq_getElem_cons hk]
 simp [h]
theorem restd_yes {tk at' : Int} {L : Ls} {k : Nat} (hs : Srt L) (hk : k < L.length) (h : dlb tk at' L[k] = true) : restd tk at' L (k + 1) = rm L[k].1 (restd tk at' L k) := by
 have hne := srt_ne hs
 have hsp : L = L.take k ++ L[k] :: L.drop (k + 1) := by rw [← List.drop_eq_getElem_cons hk, List.take_append_drop]
 rw [hsp, List.pairwise_append, List.pairwise_cons] at hne
 obtain ⟨_, ⟨h2, _⟩, h3⟩ := hne
 unfold restd keep
 rw [List.take_succ_eq_append_getElem hk, List.filter_append, List.drop_eq_getElem_cons hk]
 unfold rm
 rw [List.filter_append, List.filter_cons]
 simp only [h, Bool.not_true, List.filter_cons, List.filter_nil, bne_self_eq_false, Bool.false_eq_true, if_false, List.append_nil]
 congr 1
 · rw [List.filter_filter]
   refine List.filter_congr fun e he => ?_
   have := h3 e he L[k] List.mem_cons_self
   simp [this]
 · refine (List.filter_eq_self.2 fun e he => ?_).symm
   have := h2 e he
   simpa using Ne.symm this
theorem restd_mem {tk at' : Int} {L : Ls} {k : Nat} (hk : k < L.length) : L[k] ∈ restd tk at' L k := by
 unfold restd
 rw [List.drop_eq_getElem_cons hk]
 exact List.mem_append_right _ List.mem_cons_self
theorem cntd_take {tk at' : Int} {L : Ls} {k : Nat} (hk : k < L.length) : cntd tk at' (L.take (k + 1)) = cntd tk at' (L.take k) + if dlb tk at' L[k] = true then 1 else 0 := by
 unfold cntd
 rw [List.take_succ_eq_append_getElem hk, List.filter_append, List.length_append]
 cases h : dlb tk at' L[k] <;> simp [h]
theorem turn2 {w w' w'' : World} {O O' : Nat → Prop} {d sz : Nat} {L' : Ls} (hK : Kp O w w') (hN : ∀ b, O' b → O b ∨ w.heap.size ≤ b) (h : TurnsTo O' d sz L' w' w'') : TurnsTo O d sz L' w w'' := by
 obtain ⟨O2, k1, k2, k3⟩ := h
 exact ⟨O2, k1, hK.trans k2 hN, fun b hb => (k3 b hb).elim (hN b) fun h => .inr (Nat.le_trans hK.size h)⟩
set_option maxRecDepth 100000 in
set_option maxHeartbeats 4000000 in
theorem mn_drop {w w' : World} {d sz : Nat} {L : Ls} (tk at' : Int) (h : Mn w d sz L w') (hT : Tab w) (hE : Ers w) :
 Calls Tryz.prog 19 #[.pointer (some ⟨d, 0, none⟩), .int .i64 tk, .int .i64 at'] w' fun e w'' => e = .returned (.int .i64 (cntd tk at' L : Int)) ∧ Mn w d sz (keep tk at' L) w'' := by
 obtain ⟨O, hI, hO, hB⟩ := h
 obtain ⟨hsrt, hnl, hll⟩ := isd_srt hI
 have hOl := hI.lt
 have hna := names_any w' hI
 have HSRT := Lib.hid hsrt; have HNL := Lib.hid hnl; have HT := Lib.hid hT; have HEr := Lib.hid hE; have HO := Lib.hid hO; have HOl := Lib.hid hOl; have HB := Lib.hid hB; have HI := Lib.hid hI
 clear hsrt hnl hOl hT hE hO hB hI
 go_enter Tryz.func19, Tryz.ntmps19
 go_wp2_with (fail)
 refine hna.mono ?_
 rintro e w1 ⟨vn, rfl, hon, hb⟩
 obtain ⟨NA, nc, rfl, hnc⟩ := own_slice hon
 have hNO : Hid (0 < L.length → ∃ g P, NA = some ⟨g, P, none⟩ ∧ ¬ O g ∧ ∀ k (hk : k < L.length), w1.cell? ⟨g, P + k, none⟩ = some (.string (tx L[k].1))) := Lib.hid fun h0 => by
  rcases hon.2 with ⟨e, _⟩ | ⟨g, cap, cur, e, _⟩
  · injection e with e1 e2 e3; omega
  · injection e with e1 e2 e3
    subst e1; subst e3
    have hg := hon.lt g rfl
    refine ⟨g, 0, rfl, fun ho => ?_, fun k hk => ?_⟩
    · have := HOl.out g ho; omega
    · rw [Nat.zero_add, hon.cellAt k (by omega)]; exact nms_at L k hk
 have HTS : Hid (TurnsTo O d sz (restd tk at' L 0) w1 w1) := (HI.out.next hb).stays (Below.refl _ _)
 have HB1 := Lib.hid (Below.next HB.out hb)
 clear hon hb hna HOl HI HB
 go_wp2_with (fail)
 go_loopw [7, 15] (fun v i wr => ∃ (k n : Nat), k ≤ L.length ∧ n ≤ k ∧ i = .int .i64 (k : Int) ∧ v = .int .i64 (n : Int) ∧ Hid (n = cntd tk at' (L.take k)) ∧ Hid (TurnsTo O d sz (restd tk at' L k) w1 wr)) (fun _ i _ => L.length - (intOf i).toNat)
 case atStart => exact ⟨0, 0, Nat.zero_le _, Nat.le_refl _, rfl, rfl, Lib.hid rfl, HTS⟩
 case round =>
  obtain ⟨k, n, hk, hnk, rfl, rfl, hn, HTR⟩ := hrel
  have HW := Lib.hid (HTR.out.below HB1.out HO.out)
  by_cases hlt : k < L.length
  · have hltz : (k : Int) < (L.length : Int) := by omega
    have hct := Lib.hid (cntd_take (tk := tk) (at' := at') hlt)
    have hmr := Lib.hid (restd_mem (tk := tk) (at' := at') hlt)
    have hno := Lib.hid (restd_no (tk := tk) (at' := at') hlt)
    have hye := Lib.hid (restd_yes (tk := tk) (at' := at') HSRT.out hlt)
    have hne := HNL.out _ (List.getElem_mem hlt)
    obtain ⟨g, P, rfl, hgO, hcells⟩ := hNO.out (by omega)
    have ck : wr.cell? ⟨g, P + k, none⟩ = some (.string (tx L[k].1)) := by
     have hc := hcells k hlt
     obtain ⟨O', _, hK, _⟩ := HTR.out
     rw [hK.cell (p := ⟨g, P + k, none⟩) hgO (block_lt_of_cell hc)]; exact hc
    clear hcells
    have hnd := fun W h1 h2 => named_any (tx L[k].1) (by rw [tx_size]; omega) W h1 h2
    simp only [tx_list] at hnd
    generalize L[k] = en at *
    go_wp2_with (fail)
    refine (hnd _ (HT.out.next HW.out) (HEr.out.next HW.out)).mono ?_
    rintro e w2 ⟨hb, hq⟩
    have HTR2 := Lib.hid (HTR.out.next hb)
    clear hb hnd HTR HW ck
    rcases hq with ⟨x, hx, hnx, rfl⟩ | ⟨hnone, rfl⟩
    · have HX3 := Lib.hid (Blk.made w2 26 [.int .i64 x.t, .int .i64 x.a, .int .i64 x.p, .int .i64 x.f] rfl)
      have HTR3 := Lib.hid (HTR2.out.next (box1 w2 (.cells #[.int .i64 x.t, .int .i64 x.a, .int .i64 x.p, .int .i64 x.f] 26)))
      have hd := dlb_yes (tk := tk) (at' := at') hx hnx
      by_cases h1 : x.t = tk
      · have b1 : (x.t == tk) = true := by rw [beq_iff_eq]; exact h1
        by_cases h2 : x.a = at'
        · have b2 : (x.a == at') = true := by rw [beq_iff_eq]; exact h2
          rw [b1, b2] at hd
          have hr1 := Lib.hid (hye.out hd)
          have hc1 : Hid (cntd tk at' (L.take (k + 1)) = cntd tk at' (L.take k) + 1) := by show _ = _; rw [hct.out, hd]; rfl
          have hdel : Hid (∀ O', IsD (w2.alloc (.cells #[.int .i64 x.t, .int .i64 x.a, .int .i64 x.p, .int .i64 x.f] 26)) O' d sz (restd tk at' L k) → Calls Tryz.prog 38 #[.pointer (some ⟨d, 0, none⟩), .string (tx en.1)] (w2.alloc (.cells #[.int .i64 x.t, .int .i64 x.a, .int .i64 x.p, .int .i64 x.f] 26)) fun e w' => e = .returned (.int .i64 0) ∧ TurnsTo O' d sz (restd tk at' L (k + 1)) (w2.alloc (.cells #[.int .i64 x.t, .int .i64 x.a, .int .i64 x.p, .int .i64 x.f] 26)) w') := Lib.hid fun O' hI' => by
           have h := delete_any (tx en.1) (by rw [tx_size]; unfold maxLen; omega) _ hI'
           rw [tx_list, ← hr1.out, gt_mem (isd_srt hI').1 (show (en.1, en.2) ∈ restd tk at' L k from hmr.out)] at h
           exact h
          obtain ⟨O', hI', hK', hN'⟩ := HTR3.out
          have HD := Lib.hid (hdel.out O' hI')
          have HK' := Lib.hid hK'; have HN' := Lib.hid hN'
          clear hd hct hye hno hmr hdel hI' hK' hN' HTR2 HTR3 hnx h1 h2
          go_wp2_with (fail)
          refine HD.out.mono ?_
          rintro e w4 ⟨rfl, ht⟩
          have HTR4 := Lib.hid (turn2 HK'.out HN'.out ht)
          clear ht HD HK' HN'
          go_wp2_with (fail)
          go_roundw
          · exact ⟨k + 1, n + 1, by omega, by omega, by first | rfl | (congr 1; omega), by first | rfl | (congr 1; omega), Lib.hid (by rw [hc1.out, ← hn.out]), HTR4⟩
          · simp [intOf]; omega
        · have b2 : (x.a == at') = false := by rw [beq_eq_false_iff_ne]; exact h2
          rw [b1, b2] at hd
          have hr1 := Lib.hid (hno.out hd)
          have hc1 : Hid (cntd tk at' (L.take (k + 1)) = cntd tk at' (L.take k)) := by show _ = _; rw [hct.out, hd]; rfl
          clear hd hct hye hno hmr HTR2 hnx h1 h2
          go_wp2_with (fail)
          go_roundw
          · exact ⟨k + 1, n, by omega, by omega, by first | rfl | (congr 1; omega), rfl, Lib.hid (by rw [hc1.out]; exact hn.out), by rw [hr1.out]; exact HTR3⟩
          · simp [intOf]; omega
      · have b1 : (x.t == tk) = false := by rw [beq_eq_false_iff_ne]; exact h1
        rw [b1] at hd
        have hr1 := Lib.hid (hno.out hd)
        have hc1 : Hid (cntd tk at' (L.take (k + 1)) = cntd tk at' (L.take k)) := by show _ = _; rw [hct.out, hd]; rfl
        clear hd hct hye hno hmr HTR2 hnx h1
        go_wp2_with (fail)
        go_roundw
        · exact ⟨k + 1, n, by omega, by omega, by first | rfl | (congr 1; omega), rfl, Lib.hid (by rw [hc1.out]; exact hn.out), by rw [hr1.out]; exact HTR3⟩
        · simp [intOf]; omega
    · have hd := dlb_no (tk := tk) (at' := at') hnone
      have HTR3 := Lib.hid (HTR2.out.next (box1 w2 (.cells #[.int .i64 0, .int .i64 0, .int .i64 0, .int .i64 0] 26)))
      have hr1 := Lib.hid (hno.out hd)
      have hc1 : Hid (cntd tk at' (L.take (k + 1)) = cntd tk at' (L.take k)) := by show _ = _; rw [hct.out, hd]; rfl
      clear hd hct hye hno hmr HTR2 hnone
      go_wp2_with (fail)
      go_roundw
      · exact ⟨k + 1, n, by omega, by omega, by first | rfl | (congr 1; omega), rfl, Lib.hid (by rw [hc1.out]; exact hn.out), by rw [hr1.out]; exact HTR3⟩
      · simp [intOf]; omega
  · obtain rfl : k = L.length := by omega
    have hE := hn.out
    rw [List.take_length] at hE
    have HE := Lib.hid hE
    have HTE := HTR.out
    rw [restd_end] at HTE
    have HTE2 := Lib.hid HTE
    clear hE HTE hn
    go_wp2_with (fail)
    go_ret
    exact ⟨by rw [← HE.out]; rfl, Mn.turn HO.out HB1.out HTE2.out⟩
end Go.Proofs.YtchmepalhldpcaaGreatDoor.Fr
namespace Go.Proofs.YtchmepalhldpcaaGreatDoor.Fr
open Go.ChangeShapes Go.WideShapes Go.ChangeAt Go.RowKit Go.Sort Ov Dk Cr
def pc : List UInt8 := [112, 105, 101, 99, 101]
structure Dh (L : Ls) (H : List Fd) (n : Nat) : Prop where
 e : ∀ e ∈ L, (∃ y ∈ H, e = (nm y, fr y pc)) ∨ (∀ x, rt x = true → nm x ≠ e.1)
 h : ∀ y ∈ H, rt y = true ∧ (nm y, fr y pc) ∈ L
 u : us L ≤ 110 * n
section
variable {L : Ls} {H H' : List Fd} {n : Nat} {x : Fd}
theorem dh_nil : Dh [] [] 0 := ⟨fun _ h => (List.not_mem_nil h).elim, fun _ h => (List.not_mem_nil h).elim, Nat.le_refl _⟩
theorem Dh.skip (h : Dh L H n) : Dh L H (n + 1) := ⟨h.e, h.h, by have := h.u; omega⟩
theorem us_le_rm (m : List UInt8) (hs : Srt L) : us (rm m L) ≤ us L := by rw [us_rm m hs]; exact Nat.le_add_right _ _
theorem Dh.wrt (h : Dh L H n) (hs : Srt L) (hn : n ≤ 60) (hx : rt x = true) : wrt 65536 (nm x) (fr x pc) L = (0, pt (nm x) (fr x pc) L) := by
 have h1 := nm_len2 x; have h2 := fr_len hx (p := pc) (by decide); have h3 := h.u; have h4 := us_le_rm (nm x) hs
 have h5 : pc.length = 5 := rfl
 unfold Dk.wrt
 rw [if_neg (name_ok hx), if_neg (by omega)]
theorem Dh.put (h : Dh L H n) (hs : Srt L) (hx : rt x = true) (hm : ∀ y, y ∈ H' ↔ y ∈ H ∨ y = x) : Dh (pt (nm x) (fr x pc) L) H' (n + 1) := by
 refine ⟨fun e he => ?_, fun y hy => ?_, ?_⟩
 · rcases mem_pt.1 he with rfl | ⟨he, _⟩
   · exact .inl ⟨x, (hm x).2 (.inr rfl), rfl⟩
   · exact (h.e e he).imp (fun ⟨y, hy, q⟩ => ⟨y, (hm y).2 (.inl hy), q⟩) id
 · rcases (hm y).1 hy with hy | rfl
   · obtain ⟨h1, h2⟩ := h.h y hy
     refine ⟨h1, mem_pt.2 ?_⟩
     by_cases e : y = x
     · exact .inl (by rw [e])
     · exact .inr ⟨h2, fun q => e (nm_inj h1 hx q)⟩
   · exact ⟨hx, mem_pt.2 (.inl rfl)⟩
 · have h1 := nm_len2 x; have h2 := fr_len hx (p := pc) (by decide); have h3 := h.u; have h4 := us_le_rm (nm x) hs
   have h5 : pc.length = 5 := rfl
   rw [us_pt]; omega
theorem Dh.other (h : Dh L H n) (hs : Srt L) {t s : List UInt8} (ht : ∀ x, rt x = true → nm x ≠ t) (hsl : s.length ≤ 5) : Dh (Dk.wrt 65536 t s L).2 H (n + 1) := by
 unfold Dk.wrt
 split
 · exact h.skip
 · rename_i h1
   split
   · exact h.skip
   · refine ⟨fun e he => ?_, fun y hy => ?_, ?_⟩
     · rcases mem_pt.1 he with rfl | ⟨he, _⟩
       · exact .inr ht
       · exact h.e e he
     · obtain ⟨h2, h3⟩ := h.h y hy
       exact ⟨h2, mem_pt.2 (.inr ⟨h3, ht y h2⟩)⟩
     · have h3 := h.u; have h4 := us_le_rm t hs
       have h6 : t.length ≤ 64 := Nat.le_of_not_lt fun q => h1 (.inr q)
       show us (pt t s L) ≤ _
       rw [us_pt]; omega
theorem Dh.gd (h : Dh L H n) {e : List UInt8 × List UInt8} (he : e ∈ L) : Gd e x ↔ x ∈ H ∧ e = (nm x, fr x pc) := by
 constructor
 · rintro ⟨h1, h2, _⟩
   rcases h.e e he with ⟨y, hy, rfl⟩ | q
   · obtain rfl := nm_inj h1 (h.h y hy).1 h2
     exact ⟨hy, rfl⟩
   · exact absurd h2 (q x h1)
 · rintro ⟨h1, rfl⟩
   exact ⟨(h.h x h1).1, rfl, pc, by decide, rfl⟩
theorem Dh.ok (h : Dh L H n) : OkD L := fun e he x hx hn => by
 rcases h.e e he with ⟨y, hy, rfl⟩ | q
 · obtain rfl := nm_inj hx (h.h y hy).1 hn
   exact .inl ⟨pc, by decide, rfl⟩
 · exact absurd hn (q x hx)
theorem Dh.scn (h : Dh L H n) (hs : Srt L) (ho : Ord H) : scn L = H := by
 refine ord_ext (scn_ord hs) ho fun x => ?_
 rw [mem_scn]
 exact ⟨fun ⟨e, he, hg⟩ => ((h.gd he).1 hg).1, fun hx => ⟨_, (h.h x hx).2, (h.gd (h.h x hx).2).2 ⟨hx, rfl⟩⟩⟩
theorem us_filter (p : List UInt8 × List UInt8 → Bool) : ∀ L : Ls, us (L.filter p) ≤ us L
 | [] => Nat.le_refl _
 | y :: r => by
   have ih := us_filter p r
   have e : us (y :: r) = Dk.tk y + us r := rfl
   rw [List.filter_cons]
   split
   · show Dk.tk y + us (r.filter p) ≤ _; omega
   · omega
def qd (tk at' : Int) (x : Fd) : Bool := (x.t == tk) && (x.a == at')
variable {tk at' : Int}
theorem srt_keep (hs : Srt L) : Srt (keep tk at' L) := hs.filter _
theorem Dh.keep (h : Dh L H n) : Dh (keep tk at' L) (H.filter fun x => !qd tk at' x) n := by
 refine ⟨fun e he => ?_, fun y hy => ?_, ?_⟩
 · obtain ⟨he, hd⟩ := List.mem_filter.1 he
   rcases h.e e he with ⟨y, hy, rfl⟩ | q
   · refine .inl ⟨y, List.mem_filter.2 ⟨hy, ?_⟩, rfl⟩
     rw [dlb_yes (h.h y hy).1 rfl] at hd; exact hd
   · exact .inr q
 · obtain ⟨hy, hq⟩ := List.mem_filter.1 hy
   obtain ⟨h1, h2⟩ := h.h y hy
   refine ⟨h1, List.mem_filter.2 ⟨h2, ?_⟩⟩
   rw [dlb_yes h1 rfl]; exact hq
 · have h1 := h.u
   have : us (Fr.keep tk at' L) ≤ us L := us_filter _ L
   omega
theorem Dh.cnt (h : Dh L H n) (hs : Srt L) (ho : Ord H) : cntd tk at' L = (H.filter (qd tk at')).length := by
 have e1 : (got L).Perm H := by rw [← h.scn hs ho]; exact (st_perm _).symm
 rw [← (e1.filter _).length_eq]
 unfold cntd got
 rw [List.filter_filterMap, List.length_filterMap_eq_countP, ← List.countP_eq_length_filter]
 refine List.countP_congr fun e he => ?_
 rcases h.e e he with ⟨y, hy, rfl⟩ | q
 · rw [dlb_yes (h.h y hy).1 rfl, gi_some ((h.gd he).2 ⟨hy, rfl⟩)]
   unfold qd
   cases hq : (y.t == tk && y.a == at') <;> simp [hq]
 · rw [dlb_no q, gi_none fun x hx => q x hx.1 hx.2.1]
   simp
theorem cnt_keep : cntd tk at' (keep tk at' L) = 0 := by
 unfold cntd keep
 rw [List.filter_filter]
 simp
theorem ord_filter {p : Fd → Bool} (ho : Ord H) : Ord (H.filter p) := ho.filter _
theorem cnt_two (p : Fd → Bool) : ∀ H : List Fd, (H.filter p).length + (H.filter fun x => !p x).length = H.length
 | [] => rfl
 | y :: r => by
   have := cnt_two p r
   cases hp : p y <;> simp [hp] <;> omega
theorem cnt_take (p : Fd → Bool) {k : Nat} (hk : k < H.length) : ((H.take (k + 1)).filter p).length = ((H.take k).filter p).length + if p H[k] = true then 1 else 0 := by
 rw [List.take_succ_eq_append_getElem hk, List.filter_append, List.length_append]
 cases h : p H[k] <;> simp [h]
theorem ord_ins {k : Nat} (ho : Ord H) (hk : k ≤ H.length) (h1 : ∀ j (hj : j < H.length), k ≤ j → cf x H[j] < 0) (h2 : ∀ hk : 0 < k, cf (H[k - 1]'(by omega)) x < 0) : Ord (H.take k ++ x :: H.drop k) := by
 have ho' := ho
 rw [← List.take_append_drop k H] at ho'
 obtain ⟨o1, o2, o3⟩ := List.pairwise_append.1 ho'
 have hgt : ∀ y ∈ H.take k, cf y x < 0 := fun y hy => by
  obtain ⟨j, hj, rfl⟩ := List.getElem_of_mem hy
  have hj' : j < k := by rw [List.length_take] at hj; omega
  rw [List.getElem_take]
  have h3 := h2 (by omega)
  by_cases e : j = k - 1
  · simpa only [e] using h3
  · exact cf_trans (List.pairwise_iff_getElem.1 ho j (k - 1) (by omega) (by omega) (by omega)) h3
 have hlt : ∀ y ∈ H.drop k, cf x y < 0 := fun y hy => by
  obtain ⟨j, hj, rfl⟩ := List.getElem_of_mem hy
  rw [List.getElem_drop]
  exact h1 _ _ (by omega)
 refine List.pairwise_append.2 ⟨o1, List.pairwise_cons.2 ⟨hlt, o2⟩, fun y hy z hz => ?_⟩
 rcases List.mem_cons.1 hz with rfl | hz
 · exact hgt y hy
 · exact o3 y hy z hz
theorem mem_insd (k : Nat) (y : Fd) : y ∈ H.take k ++ x :: H.drop k ↔ y ∈ H ∨ y = x := by
 rw [List.mem_append, List.mem_cons]
 constructor
 · rintro (h | h | h)
   · exact .inl (List.mem_of_mem_take h)
   · exact .inr h
   · exact .inl (List.mem_of_mem_drop h)
 · rintro (h | h)
   · rw [← List.take_append_drop k H, List.mem_append] at h
     exact h.imp id .inr
   · exact .inr (.inl h)
theorem cf_ge {x y : Fd} (h : ¬ cf x y < 0) (hne : y ≠ x) : cf y x < 0 := by
 have h1 := cf_flip x y
 have h2 : cf x y ≠ 0 := fun q => hne (cf_zero q).symm
 omega
end
def Hm (O : Nat → Prop) (w : World) (A : Option Addr) (c : Nat) (H : List Fd) : Prop :=
 (A = none ∧ H = [] ∧ c = 0) ∨ ∃ g, A = some ⟨g, 0, none⟩ ∧ ¬ O g ∧ g < w.heap.size ∧ H.length ≤ c ∧ Ids w A H
def Lp (w1 : World) (d : Nat) (L : Ls) (H : List Fd) (A : Option Addr) (c : Nat) (wr : World) : Prop :=
 ∃ O, IsD wr O d 65536 L ∧ (∀ b, O b → w1.heap.size ≤ b) ∧ Below w1.heap.size w1 wr ∧ Hm O wr A c H
section
variable {w1 wr wr' : World} {d : Nat} {L L' : Ls} {H H' : List Fd} {A : Option Addr} {c : Nat} {O O' : Nat → Prop}
theorem Hm.turn (h : Hm O wr A c H) (k : Kp O wr wr') (hN : ∀ b, O' b → O b ∨ wr.heap.size ≤ b) : Hm O' wr' A c H := by
 rcases h with h | ⟨g, rfl, hg, hl, hc, hi⟩
 · exact .inl h
 · refine .inr ⟨g, rfl, fun q => (hN g q).elim hg (by omega), Nat.lt_of_lt_of_le hl k.size, hc, fun hn => ?_⟩
   obtain ⟨B, P, e, hcell⟩ := hi hn
   injection e with e
   refine ⟨B, P, congrArg some e, fun i j v hi hv => ?_⟩
   have h1 := hcell i j v hi hv
   have e2 : g = B := congrArg Addr.block e
   rw [k.cell (p := ⟨B, P + i * 4 + j, none⟩) (e2 ▸ hg) (block_lt_of_cell h1)]; exact h1
theorem Lp.below (h : Lp w1 d L H A c wr) : Below w1.heap.size w1 wr := by obtain ⟨_, _, _, h, _⟩ := h; exact h
theorem Lp.srt (h : Lp w1 d L H A c wr) : Srt L := by obtain ⟨O, h, _⟩ := h; exact (isd_srt h).1
theorem Lp.mn (h : Lp w1 d L H A c wr) : Mn w1 d 65536 L wr := by obtain ⟨O, h1, h2, h3, _⟩ := h; exact ⟨O, h1, h2, h3⟩
theorem Lp.next (h : Lp w1 d L H A c wr) (k : Below wr.heap.size wr wr') : Lp w1 d L H A c wr' := by
 obtain ⟨O, h1, h2, h3, h4⟩ := h
 exact ⟨O, h1.next k, h2, Below.next h3 k, h4.turn (Below.kp O k) fun _ => .inl⟩
theorem Lp.turn (h2 : ∀ b, O b → w1.heap.size ≤ b) (h3 : Below w1.heap.size w1 wr) (h4 : Hm O wr A c H) (ht : TurnsTo O d 65536 L' wr wr') : Lp w1 d L' H A c wr' := by
 have hb := ht.below h3 h2
 obtain ⟨O', k1, k2, k3⟩ := ht
 exact ⟨O', k1, fun b hb => (k3 b hb).elim (h2 b) (Nat.le_trans h3.size), hb, h4.turn k2 k3⟩
theorem Lp.ids (h : Lp w1 d L H A c wr) : Ids wr A H := by
 obtain ⟨_, _, _, _, ⟨_, rfl, _⟩ | ⟨g, rfl, _, _, _, h⟩⟩ := h
 · exact Ids.nil _ _
 · exact h
theorem Lp.form (h : Lp w1 d L H A c wr) : (A = none ∧ H = [] ∧ c = 0) ∨ ∃ g, A = some ⟨g, 0, none⟩ ∧ H.length ≤ c := by
 obtain ⟨_, _, _, _, h | ⟨g, rfl, _, _, hc, _⟩⟩ := h
 · exact .inl h
 · exact .inr ⟨g, rfl, hc⟩
theorem Lp.ins (h : Lp w1 d L H A c wr) (k : Below wr.heap.size wr wr') {b c' : Nat} (hb : wr.heap.size ≤ b) (hb' : b < wr'.heap.size) (hc : H'.length ≤ c') (hi : Ids wr' (some ⟨b, 0, none⟩) H') : Lp w1 d L H' (some ⟨b, 0, none⟩) c' wr' := by
 obtain ⟨O, h1, h2, h3, _⟩ := h
 exact ⟨O, h1.next k, h2, Below.next h3 k, .inr ⟨b, rfl, fun q => by have := h1.lt b q; omega, hb', hc, hi⟩⟩
theorem lp_new (w : World) : Calls Tryz.prog 8 #[.int .i64 65536] w fun e w' => ∃ d, e = .returned (.tuple #[.pointer (some ⟨d, 0, none⟩), .int .i64 0]) ∧ Lp w d [] [] none 0 w' :=
 (new_yes 65536 (by decide) w).mono fun _ _ ⟨he, h1, hb⟩ => ⟨_, he, _, h1, fun _ h => nO_lo h, hb, .inl ⟨rfl, rfl, rfl⟩⟩
theorem lp_put (x : Fd) (t : ByteArray) (h : Lp w1 d L H A c wr) (hT : Tab wr) (hx : rt x = true) (ht : t.size ≤ 900000) {q : Nat × Ls} (hq : wrt 65536 (nm x) (fr x t.data.toList) L = q) :
 Calls Tryz.prog 9 #[.pointer (some ⟨d, 0, none⟩), .agg #[.int .i64 x.t, .int .i64 x.a, .int .i64 x.p, .int .i64 x.f], .string t] wr fun e w'' => e = .returned (.int .i64 (q.1 : Int)) ∧ Lp w1 d q.2 H A c w'' := by
 obtain ⟨O, h1, h2, h3, h4⟩ := h
 subst hq
 exact (put_yes x t wr h1 hT hx ht).mono fun _ _ ⟨he, ht⟩ => ⟨he, Lp.turn h2 h3 h4 ht⟩
theorem lp_put_no (x : Fd) (t : ByteArray) (h : Lp w1 d L H A c wr) (hx : rt x = false) :
 Calls Tryz.prog 9 #[.pointer (some ⟨d, 0, none⟩), .agg #[.int .i64 x.t, .int .i64 x.a, .int .i64 x.p, .int .i64 x.f], .string t] wr fun e w'' => e = .returned (.int .i64 1) ∧ Lp w1 d L H A c w'' := by
 obtain ⟨O, h1, h2, h3, h4⟩ := h
 exact (put_no x t wr h1 hx).mono fun _ _ ⟨he, ht⟩ => ⟨he, Lp.turn h2 h3 h4 ht⟩
theorem lp_write (t s : ByteArray) (hs : s.size ≤ 1000000) (h : Lp w1 d L H A c wr) {q : Nat × Ls} (hq : wrt 65536 t.data.toList s.data.toList L = q) :
 Calls Tryz.prog 17 #[.pointer (some ⟨d, 0, none⟩), .string t, .string s] wr fun e w'' => e = .returned (.int .i64 (q.1 : Int)) ∧ Lp w1 d q.2 H A c w'' := by
 obtain ⟨O, h1, h2, h3, h4⟩ := h
 subst hq
 exact (write_any t s (by omega) wr h1).mono fun _ _ ⟨he, ht⟩ => ⟨he, Lp.turn h2 h3 h4 ht⟩
theorem lp_scan (h : Lp w1 d L H A c wr) (hT : Tab wr) (hE : Ers wr) (ho : OkD L) {l : List Fd} (hl : scn L = l) :
 Calls Tryz.prog 11 #[.pointer (some ⟨d, 0, none⟩)] wr fun e w'' => ∃ A' c', e = .returned (.slice A' l.length c') ∧ Ids w'' A' l ∧ Lp w1 d L H A c w'' := by
 have h0 := h
 obtain ⟨O, h1, h2, h3, h4⟩ := h
 subst hl
 exact (scan_any wr h1 hT hE ho).mono fun _ _ ⟨A', c', he, hi, hb⟩ => ⟨A', c', he, hi, h0.next hb⟩
end
end Go.Proofs.YtchmepalhldpcaaGreatDoor.Fr
namespace Go.Proofs.YtchmepalhldpcaaGreatDoor.Fr
open Go.ChangeShapes Go.WideShapes Go.ChangeAt Go.RowKit Ov
set_option maxRecDepth 100000 in
set_option maxHeartbeats 4000000 in
theorem rright_any (x : Fd) (w : World) : Calls Tryz.prog 14 #[.agg #[.int .i64 x.t, .int .i64 x.a, .int .i64 x.p, .int .i64 x.f]] w (Gives (.bool (rt x)) w) := by
 have HB := Lib.hid (box1 w (.cells #[.int .i64 x.t, .int .i64 x.a, .int .i64 x.p, .int .i64 x.f] 23))
 by_cases h0 : 0 ≤ x.t
 case neg =>
  have hr : rt x = false := by
   cases hr : rt x
   · rfl
   · have := rt_iff.1 hr; omega
  rw [hr]
  have d0 : decide (0 ≤ x.t) = false := decide_eq_false h0
  go_enter Tryz.func14, Tryz.ntmps14
  go_wp2_with (fail)
  go_ret
  exact ⟨rfl, HB.out⟩
 have d0 : decide (0 ≤ x.t) = true := decide_eq_true h0
 by_cases h1 : x.t ≤ 2147483647
 case neg =>
  have hr : rt x = false := by
   cases hr : rt x
   · rfl
   · have := rt_iff.1 hr; omega
  rw [hr]
  have d1 : decide (x.t ≤ 2147483647) = false := decide_eq_false h1
  go_enter Tryz.func14, Tryz.ntmps14
  go_wp2_with (fail)
  go_ret
  exact ⟨rfl, HB.out⟩
 have d1 : decide (x.t ≤ 2147483647) = true := decide_eq_true h1
 by_cases h2 : 0 ≤ x.a
 case neg =>
  have hr : rt x = false := by
   cases hr : rt x
   · rfl
   · have := rt_iff.1 hr; omega
  rw [hr]
  have d2 : decide (0 ≤ x.a) = false := decide_eq_false h2
  go_enter Tryz.func14, Tryz.ntmps14
  go_wp2_with (fail)
  go_ret
  exact ⟨rfl, HB.out⟩
 have d2 : decide (0 ≤ x.a) = true := decide_eq_true h2
 by_cases h3 : x.a ≤ 2147483647
 case neg =>
  have hr : rt x = false := by
   cases hr : rt x
   · rfl
   · have := rt_iff.1 hr; omega
  rw [hr]
  have d3 : decide (x.a ≤ 2147483647) = false := decide_eq_false h3
  go_enter Tryz.func14, Tryz.ntmps14
  go_wp2_with (fail)
  go_ret
  exact ⟨rfl, HB.out⟩
 have d3 : decide (x.a ≤ 2147483647) = true := decide_eq_true h3
 by_cases h4 : 0 ≤ x.p
 case neg =>
  have hr : rt x = false := by
   cases hr : rt x
   · rfl
   · have := rt_iff.1 hr; omega
  rw [hr]
  have d4 : decide (0 ≤ x.p) = false := decide_eq_false h4
  go_enter Tryz.func14, Tryz.ntmps14
  go_wp2_with (fail)
  go_ret
  exact ⟨rfl, HB.out⟩
 have d4 : decide (0 ≤ x.p) = true := decide_eq_true h4
 by_cases h5 : x.p ≤ 2147483647
 case neg =>
  have hr : rt x = false := by
   cases hr : rt x
   · rfl
   · have := rt_iff.1 hr; omega
  rw [hr]
  have d5 : decide (x.p ≤ 2147483647) = false := decide_eq_false h5
  go_enter Tryz.func14, Tryz.ntmps14
  go_wp2_with (fail)
  go_ret
  exact ⟨rfl, HB.out⟩
 have d5 : decide (x.p ≤ 2147483647) = true := decide_eq_true h5
 by_cases h6 : 0 ≤ x.f
 case neg =>
  have hr : rt x = false := by
   cases hr : rt x
   · rfl
   · have := rt_iff.1 hr; omega
  rw [hr]
  have d6 : decide (0 ≤ x.f) = false := decide_eq_false h6
  go_enter Tryz.func14, Tryz.ntmps14
  go_wp2_with (fail)
  go_ret
  exact ⟨rfl, HB.out⟩
 have d6 : decide (0 ≤ x.f) = true := decide_eq_true h6
 by_cases h7 : x.f ≤ 2147483647
 case neg =>
  have hr : rt x = false := by
   cases hr : rt x
   · rfl
   · have := rt_iff.1 hr; omega
  rw [hr]
  have d7 : decide (x.f ≤ 2147483647) = false := decide_eq_false h7
  go_enter Tryz.func14, Tryz.ntmps14
  go_wp2_with (fail)
  go_ret
  exact ⟨rfl, HB.out⟩
 have d7 : decide (x.f ≤ 2147483647) = true := decide_eq_true h7
 rw [rt_iff.2 ⟨⟨h0, h1⟩, ⟨h2, h3⟩, ⟨h4, h5⟩, h6, h7⟩]
 go_enter Tryz.func14, Tryz.ntmps14
 go_wp2_with (fail)
 go_ret
 exact ⟨rfl, HB.out⟩
set_option maxRecDepth 100000 in
set_option maxHeartbeats 4000000 in
theorem rless_any (x y : Fd) (w : World) : Calls Tryz.prog 15 #[.agg #[.int .i64 x.t, .int .i64 x.a, .int .i64 x.p, .int .i64 x.f], .agg #[.int .i64 y.t, .int .i64 y.a, .int .i64 y.p, .int .i64 y.f]] w (Gives (.bool (decide (cf x y < 0))) w) := by
 by_cases h0 : x.t = y.t
 case neg =>
  have n0 : (x.t != y.t) = true := by rw [bne_iff_ne]; exact h0
  have e : decide (cf x y < 0) = decide (x.t < y.t) := by
   rw [Bool.eq_iff_iff, decide_eq_true_eq, decide_eq_true_eq]
   unfold cf ns lx lx lx lx lx
   repeat (split <;> first | omega | skip)
  rw [e]
  clear e
  go_enter Tryz.func15, Tryz.ntmps15
  go_wp2_with (fail)
  go_ret
  exact ⟨rfl, box2 w _ _⟩
 have n0 : (x.t != y.t) = false := by rw [bne_eq_false_iff_eq]; exact h0
 by_cases h1 : x.a = y.a
 case neg =>
  have n1 : (x.a != y.a) = true := by rw [bne_iff_ne]; exact h1
  have e : decide (cf x y < 0) = decide (x.a < y.a) := by
   rw [Bool.eq_iff_iff, decide_eq_true_eq, decide_eq_true_eq]
   unfold cf ns lx lx lx lx lx
   repeat (split <;> first | omega | skip)
  rw [e]
  clear e
  go_enter Tryz.func15, Tryz.ntmps15
  go_wp2_with (fail)
  go_ret
  exact ⟨rfl, box2 w _ _⟩
 have n1 : (x.a != y.a) = false := by rw [bne_eq_false_iff_eq]; exact h1
 by_cases h2 : x.p = y.p
 case neg =>
  have n2 : (x.p != y.p) = true := by rw [bne_iff_ne]; exact h2
  have e : decide (cf x y < 0) = decide (x.p < y.p) := by
   rw [Bool.eq_iff_iff, decide_eq_true_eq, decide_eq_true_eq]
   unfold cf ns lx lx lx lx lx
   repeat (split <;> first | omega | skip)
  rw [e]
  clear e
  go_enter Tryz.func15, Tryz.ntmps15
  go_wp2_with (fail)
  go_ret
  exact ⟨rfl, box2 w _ _⟩
 have n2 : (x.p != y.p) = false := by rw [bne_eq_false_iff_eq]; exact h2
 have e : decide (cf x y < 0) = decide (x.f < y.f) := by
  rw [Bool.eq_iff_iff, decide_eq_true_eq, decide_eq_true_eq]
  unfold cf ns lx lx lx lx lx
  repeat (split <;> first | omega | skip)
 rw [e]
 clear e
 go_enter Tryz.func15, Tryz.ntmps15
 go_wp2_with (fail)
 go_ret
 exact ⟨rfl, box2 w _ _⟩
set_option maxRecDepth 100000 in
set_option maxHeartbeats 4000000 in
theorem rname_any (x : Fd) (w : World) (hx : rt x = true) : Calls Tryz.prog 34 #[.agg #[.int .i64 x.t, .int .i64 x.a, .int .i64 x.p, .int .i64 x.f]] w (Gives (.string (tx (nm x))) w) := by
 obtain ⟨h1, h2, h3, h4⟩ := rt_iff.1 hx
 have HD := Lib.hid (Blk.made w 23 [.int .i64 x.t, .int .i64 x.a, .int .i64 x.p, .int .i64 x.f] rfl)
 have HB := Lib.hid (box1 w (.cells #[.int .i64 x.t, .int .i64 x.a, .int .i64 x.p, .int .i64 x.f] 23))
 have q1 := itoa_len h1; have q2 := itoa_len h2; have q3 := itoa_len h3; have q4 := itoa_len h4
 rw [← tx_size] at q1 q2 q3 q4
 have HE : Hid (((((((⟨#[116]⟩ ++ tx (Lib.itoa x.t)) ++ ⟨#[97]⟩) ++ tx (Lib.itoa x.a)) ++ ⟨#[112]⟩) ++ tx (Lib.itoa x.p)) ++ ⟨#[102]⟩) ++ tx (Lib.itoa x.f) = tx (nm x)) := by
  show _ = _
  rw [nm_rt hx, pre4]
  rw [show (⟨#[116]⟩ : ByteArray) = tx [116] from rfl, show (⟨#[97]⟩ : ByteArray) = tx [97] from rfl, show (⟨#[112]⟩ : ByteArray) = tx [112] from rfl, show (⟨#[102]⟩ : ByteArray) = tx [102] from rfl]
  simp only [tx_append]
  congr 1
  simp
 have d1 := fun W => rdec_any x.t W (by omega)
 have d2 := fun W => rdec_any x.a W (by omega)
 have d3 := fun W => rdec_any x.p W (by omega)
 have d4 := fun W => rdec_any x.f W (by omega)
 generalize tx (Lib.itoa x.t) = A1 at *
 generalize tx (Lib.itoa x.a) = A2 at *
 generalize tx (Lib.itoa x.p) = A3 at *
 generalize tx (Lib.itoa x.f) = A4 at *
 go_enter Tryz.func34, Tryz.ntmps34
 go_upto_region 1 with (fail)
 generalize hw0 : (w.alloc _) = w0 at *
 clear hw0
 have k0 := fun q : Over w0 => (HD.out.over q).c 0 _ rfl; have k1 := fun q : Over w0 => (HD.out.over q).c 1 _ rfl; have k2 := fun q : Over w0 => (HD.out.over q).c 2 _ rfl; have k3 := fun q : Over w0 => (HD.out.over q).c 3 _ rfl
 have e1 := Lib.hid (fun q : Over w0 => over_gives q (d1 q.val)); have e2 := Lib.hid (fun q : Over w0 => over_gives q (d2 q.val)); have e3 := Lib.hid (fun q : Over w0 => over_gives q (d3 q.val)); have e4 := Lib.hid (fun q : Over w0 => over_gives q (d4 q.val))
 clear d1 d2 d3 d4 hx
 refine wp_over (by kernel_rfl) (by kernel_rfl) ?_
 repeat (go_big_quiet_step (first | fail | with_reducible exact e1.out _ | with_reducible exact e2.out _ | with_reducible exact e3.out _ | with_reducible exact e4.out _))
 refine wpQuiet_nil ?_
 rintro wz ⟨⟨wz, hb⟩, rfl⟩
 have HBZ := Lib.hid (Below.next HB.out hb)
 clear hb k0 k1 k2 k3 e1 e2 e3 e4
 go_wp2_with (fail)
 go_ret
 exact ⟨ret_str HE.out, HBZ.out⟩
end Go.Proofs.YtchmepalhldpcaaGreatDoor.Fr
namespace Go.Proofs.YtchmepalhldpcaaGreatDoor.Fr
open Go.ChangeShapes Go.WideShapes Go.ChangeAt Go.RowKit Ov Va
def vl (l : List UInt8) : Nat := l.foldl (fun n c => if n < 1000000000000 then n * 10 + (c.toNat - 48) else n) 0
theorem vl_snoc (l : List UInt8) (c : UInt8) : vl (l ++ [c]) = if vl l < 1000000000000 then vl l * 10 + (c.toNat - 48) else vl l := by unfold vl; rw [List.foldl_append]; rfl
theorem vl_dv (l : List UInt8) : dv l < 1000000000000 → vl l = dv l := by
 refine snoc_ind (p := fun l => dv l < 1000000000000 → vl l = dv l) (fun _ => rfl) (fun l c ih h => ?_) l
 rw [dv_snoc] at h ⊢
 have h1 := ih (by omega)
 rw [vl_snoc, h1, if_pos (by omega)]; omega
theorem tw_app : ∀ {d r : List UInt8}, (∀ c ∈ d, dg c = true) → (∀ c, r.head? = some c → dg c = false) → tw (d ++ r) = d.length
 | [], [], _, _ => rfl
 | [], c :: r, _, h => by rw [List.nil_append, tw_cons, h c rfl]; rfl
 | c :: d, r, h, k => by
   rw [List.cons_append, tw_cons, if_pos (h c List.mem_cons_self), tw_app (fun x hx => h x (List.mem_cons_of_mem _ hx)) k]; rfl
def rn (l : List UInt8) (i : Nat) : Nat × Nat := (vl ((l.drop i).take (tw (l.drop i))), i + tw (l.drop i))
theorem rn_at {l r : List UInt8} {i : Nat} {n : Int} (h : l.drop i = Lib.itoa n ++ r) (hn : 0 ≤ n ∧ n ≤ 2147483647) (hr : ∀ c, r.head? = some c → dg c = false) : rn l i = (n.toNat, i + (Lib.itoa n).length) := by
 have ht := tw_app (itoa_dg hn.1) hr
 unfold rn
 rw [h, ht, List.take_left' rfl]
 have e : Lib.itoa n = Lib.decDigits n.toNat := by unfold Lib.itoa; rw [if_neg (by omega)]
 have hd : dv (Lib.itoa n) = n.toNat := by rw [e]; exact dec_dv _
 rw [vl_dv _ (by rw [hd]; omega), hd]
theorem rn_le (l : List UInt8) (i : Nat) : (rn l i).2 ≤ l.length + i := by
 unfold rn
 have := tw_le (l.drop i)
 rw [List.length_drop] at this
 show i + _ ≤ _
 omega
theorem drop_at {s : ByteArray} {i p : Nat} (hi : i ≤ p) (hp : p < s.size) : ∃ h : p - i < (s.data.toList.drop i).length, (s.data.toList.drop i)[p - i] = s[p] := by
 have hl : s.data.toList.length = s.size := by simp
 refine ⟨by rw [List.length_drop]; omega, ?_⟩
 rw [List.getElem_drop]
 have e : i + (p - i) = p := by omega
 simp only [e]; rfl
theorem take_at {s : ByteArray} {i p : Nat} (hi : i ≤ p) (hp : p < s.size) : (s.data.toList.drop i).take (p + 1 - i) = (s.data.toList.drop i).take (p - i) ++ [s[p]] := by
 obtain ⟨h, e⟩ := drop_at hi hp
 rw [show p + 1 - i = p - i + 1 by omega, List.take_succ_eq_append_getElem h, e]
set_option maxRecDepth 100000 in
set_option maxHeartbeats 4000000 in
theorem number_any (s : ByteArray) (i : Nat) (w : World) (hs : s.size ≤ 1000000000000000) (hi : i ≤ 1000000000000000) : Calls Tryz.prog 33 #[.string s, .int .i64 (i : Int)] w fun e w' =>
 e = .returned (.tuple #[.int .i64 ((rn s.data.toList i).1 : Int), .int .i64 ((rn s.data.toList i).2 : Int)]) ∧ w = w' := by
 go_enter Tryz.func33, Tryz.ntmps33
 go_wp2_with (fail)
 go_loopw [1, 6] (fun q m wr => ∃ p n : Nat, i ≤ p ∧ p ≤ 2000000000000000 ∧ q = .int .i64 (p : Int) ∧ m = .int .i64 (n : Int) ∧ w = wr ∧ n < 10000000000000 ∧ Hid (p - i ≤ tw (s.data.toList.drop i)) ∧ Hid (n = vl ((s.data.toList.drop i).take (p - i)))) (fun q _ _ => s.size - (intOf q).toNat)
 case atStart => exact ⟨i, 0, Nat.le_refl _, by omega, rfl, rfl, rfl, by omega, Lib.hid (by omega), Lib.hid (by rw [Nat.sub_self, List.take_zero]; rfl)⟩
 case round =>
  obtain ⟨p, n, hp, hpz, rfl, rfl, rfl, hn, htw, hv⟩ := hrel
  have hend : (∀ h : p < s.size, dg s[p] = false) → Hid (rn s.data.toList i = (n, p)) := fun h => by
   have ht : tw (s.data.toList.drop i) = p - i := by
    have htw' := htw.out
    by_cases hlt : p < s.size
    · obtain ⟨h1, h2⟩ := drop_at hp hlt
      exact tw_no h1 htw' (by rw [h2]; exact h hlt)
    · have := tw_le (s.data.toList.drop i)
      rw [List.length_drop] at this
      have hl : s.data.toList.length = s.size := by simp
      omega
   show _ = _
   unfold rn
   rw [ht, ← hv.out, show i + (p - i) = p by omega]
  by_cases hlt : p < s.size
  · have hltz : (p : Int) < (s.size : Int) := by omega
    have HV := Lib.hid (take_at hp hlt)
    have HT : Hid (dg s[p] = true → p + 1 - i ≤ tw (s.data.toList.drop i)) := Lib.hid fun hd => by
     obtain ⟨h1, h2⟩ := drop_at hp hlt
     have := tw_yes h1 htw.out (by rw [h2]; exact hd)
     omega
    have hend' := Lib.hid (fun hd : dg s[p] = false => hend (fun _ => hd))
    clear hend
    obtain ⟨c, hc⟩ : ∃ c : UInt8, s[p] = c := ⟨_, rfl⟩
    rw [hc] at HV HT hend'
    by_cases h1 : 48 ≤ c.toNat
    · have g1 : decide ((48 : Int) ≤ (c.toNat : Int)) = true := decide_eq_true (by omega)
      by_cases h2 : c.toNat ≤ 57
      · have g2 : decide ((c.toNat : Int) ≤ 57) = true := decide_eq_true (by omega)
        have HT2 := Lib.hid (HT.out (decide_eq_true ⟨h1, h2⟩))
        by_cases h3 : n < 1000000000000
        · have g3 : decide ((n : Int) < 1000000000000) = true := decide_eq_true (by omega)
          have HV2 : Hid (n * 10 + (c.toNat - 48) = vl ((s.data.toList.drop i).take (p + 1 - i))) := by show _ = _; rw [HV.out, vl_snoc, ← hv.out, if_pos h3]
          have hsum : (n : Int) * 10 + (c.toNat : Int) - 48 = ((n * 10 + (c.toNat - 48) : Nat) : Int) := by omega
          go_wp2_with (fail)
          go_roundw
          · exact ⟨p + 1, n * 10 + (c.toNat - 48), by omega, by omega, by first | rfl | (congr 1; omega), by first | rfl | (congr 1; omega), trivial, by omega, HT2, HV2⟩
          · simp [intOf]; omega
        · have g3 : decide ((n : Int) < 1000000000000) = false := decide_eq_false (by omega)
          have HV2 : Hid (n = vl ((s.data.toList.drop i).take (p + 1 - i))) := by show _ = _; rw [HV.out, vl_snoc, ← hv.out, if_neg h3]
          go_wp2_with (fail)
          go_roundw
          · exact ⟨p + 1, n, by omega, by omega, by first | rfl | (congr 1; omega), rfl, trivial, by omega, HT2, HV2⟩
          · simp [intOf]; omega
      · have g2 : decide ((c.toNat : Int) ≤ 57) = false := decide_eq_false (by omega)
        have HR := hend'.out (decide_eq_false fun h => h2 h.2)
        go_wp2_with (fail)
        go_ret2
        exact ⟨by rw [HR.out]; rfl, rfl⟩
    · have g1 : decide ((48 : Int) ≤ (c.toNat : Int)) = false := decide_eq_false (by omega)
      have HR := hend'.out (decide_eq_false fun h => h1 h.1)
      go_wp2_with (fail)
      go_ret2
      exact ⟨by rw [HR.out]; rfl, rfl⟩
  · have HR := hend (fun h => absurd h hlt)
    go_wp2_with (fail)
    go_ret2
    exact ⟨by rw [HR.out]; rfl, rfl⟩
end Go.Proofs.YtchmepalhldpcaaGreatDoor.Fr

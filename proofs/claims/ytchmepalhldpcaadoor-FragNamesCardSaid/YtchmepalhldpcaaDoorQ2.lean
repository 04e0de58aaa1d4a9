/-
  Small texts of this claim, together: FrLaw, FrNames, CrMore, CrSeal, FrFrame, CrRef, CrAwake, CrLaws, FrOpen, FrBack.
-/
import Derived.Test.YtchmepalhldpcaaDoorQFrNamed
import Derived.Deep.CutRange
import Derived.Test.YtchmepalhldpcaaDoorQCrTable
import Derived.Test.YtchmepalhldpcaaDoorQ1
namespace Go.Proofs.YtchmepalhldpcaaDoor.Fr
open Go.ChangeShapes Go.WideShapes Go.ChangeAt Go.RowKit Ov Va
theorem fd_b (x y : Fd) : decide (x = y) = ((x.t == y.t) && ((x.a == y.a) && ((x.p == y.p) && (x.f == y.f)))) := by
 rw [Bool.eq_iff_iff]; simp [Fd.eq_iff]
set_option maxRecDepth 100000 in
set_option maxHeartbeats 1000000 in
theorem eql_id (x y : Fd) (w : World) : (binOp .eql 28 (.agg #[.int .i64 x.t, .int .i64 x.a, .int .i64 x.p, .int .i64 x.f]) (.agg #[.int .i64 y.t, .int .i64 y.a, .int .i64 y.p, .int .i64 y.f])).run Tryd.prog w = .ok (.bool (decide (x = y))) w := by
 rw [fd_b]
 have u := Tryd.underlying3
 have hS : Tryd.prog.underlying 28 = some (.struct (Tryd.prog.fieldsOf 28)) := by kernel_rfl
 have hp : Tryd.prog.stoodInHeld 28 = false := by kernel_rfl
 rw [run_eql_struct, show (10000 : Nat) = 9999 + 1 from rfl, run_equalIn_struct w 9999 28 _ _ hS hp]
 clear hS hp
 simp only [Program.fieldsOf, Tryd.underlying28]
 go_simp
 clear u
 obtain ⟨a, b, c, d⟩ := x; obtain ⟨a', b', c', d'⟩ := y
 by_cases h1 : a = a' <;> by_cases h2 : b = b' <;> by_cases h3 : c = c' <;> by_cases h4 : d = d' <;> simp [h1, h2, h3, h4]
set_option maxRecDepth 100000 in
set_option maxHeartbeats 1000000 in
theorem eql_rid (x y : Fd) (w : World) : (binOp .eql 23 (.agg #[.int .i64 x.t, .int .i64 x.a, .int .i64 x.p, .int .i64 x.f]) (.agg #[.int .i64 y.t, .int .i64 y.a, .int .i64 y.p, .int .i64 y.f])).run Tryd.prog w = .ok (.bool (decide (x = y))) w := by
 rw [fd_b]
 have u := Tryd.underlying3
 have hS : Tryd.prog.underlying 23 = some (.struct (Tryd.prog.fieldsOf 23)) := by kernel_rfl
 have hp : Tryd.prog.stoodInHeld 23 = false := by kernel_rfl
 rw [run_eql_struct, show (10000 : Nat) = 9999 + 1 from rfl, run_equalIn_struct w 9999 23 _ _ hS hp]
 clear hS hp
 simp only [Program.fieldsOf, Tryd.underlying23]
 go_simp
 clear u
 obtain ⟨a, b, c, d⟩ := x; obtain ⟨a', b', c', d'⟩ := y
 by_cases h1 : a = a' <;> by_cases h2 : b = b' <;> by_cases h3 : c = c' <;> by_cases h4 : d = d' <;> simp [h1, h2, h3, h4]
theorem eg_name : nm ⟨1, 20, 3, 0⟩ = [116, 49, 97, 50, 48, 112, 51, 102, 48] := by
 have i0 : Lib.itoa 0 = [48] := by unfold Lib.itoa; rw [if_neg (by decide)]; exact dec_small (by decide)
 have i1 : Lib.itoa 1 = [49] := by unfold Lib.itoa; rw [if_neg (by decide)]; exact dec_small (by decide)
 have i3 : Lib.itoa 3 = [51] := by unfold Lib.itoa; rw [if_neg (by decide)]; exact dec_small (by decide)
 have i20 : Lib.itoa 20 = [50, 48] := by
  unfold Lib.itoa; rw [if_neg (by decide)]
  show Lib.decDigits 20 = _
  rw [dec_big (by decide), dec_small (by decide)]; rfl
 rw [nm_rt rfl, pre4, i0, i1, i3, i20]; rfl
set_option maxHeartbeats 1000000 in
theorem awake_any (w : World) (ht : Tab w) : Calls Tryd.prog 5 #[] w (Gives (.bool true) w) := by
 have h := name_any ⟨1, 20, 3, 0⟩ w ht
 rw [eg_name] at h
 have hq : ((tx [116, 49, 97, 50, 48, 112, 51, 102, 48]).toList == [116, 49, 97, 50, 48, 112, 51, 102, 48]) = true := by rw [ByteArray.toList_eq, tx_list]; rfl
 generalize tx [116, 49, 97, 50, 48, 112, 51, 102, 48] = S at *
 go_enter Tryd.func5, Tryd.ntmps5
 go_wp2_with (fail)
 refine h.mono ?_
 rintro e w1 ⟨rfl, hb⟩
 have HB := Lib.hid hb
 clear h hb
 go_wp2_with (fail)
 go_ret
 exact ⟨rfl, HB.out⟩
end Go.Proofs.YtchmepalhldpcaaDoor.Fr
namespace Go.Proofs.YtchmepalhldpcaaDoor.Fr
open Go.ChangeShapes Go.WideShapes Go.ChangeAt Go.RowKit Ov
set_option maxRecDepth 100000 in
set_option maxHeartbeats 8000000 in
theorem names_core (a b : Fd) (s : ByteArray) (w : World) (hT : Tab w) (hE : Ers w) : Calls Tryd.prog 4 #[.agg #[.int .i64 a.t, .int .i64 a.a, .int .i64 a.p, .int .i64 a.f], .agg #[.int .i64 b.t, .int .i64 b.a, .int .i64 b.p, .int .i64 b.f], .string s] w (Gives (.bool true) w) := by
 have HT := Lib.hid hT; have HE := Lib.hid hE
 have HD1 := Lib.hid ((Blk.made w 23 [.int .i64 a.t, .int .i64 a.a, .int .i64 a.p, .int .i64 a.f] rfl).old (.cells #[.int .i64 b.t, .int .i64 b.a, .int .i64 b.p, .int .i64 b.f] 23))
 have HD2 := Lib.hid (Blk.made (w.alloc (.cells #[.int .i64 a.t, .int .i64 a.a, .int .i64 a.p, .int .i64 a.f] 23)) 23 [.int .i64 b.t, .int .i64 b.a, .int .i64 b.p, .int .i64 b.f] (n := w.heap.size + 1) (by simp))
 have HB0 := Lib.hid (box2 w (.cells #[.int .i64 a.t, .int .i64 a.a, .int .i64 a.p, .int .i64 a.f] 23) (.cells #[.int .i64 b.t, .int .i64 b.a, .int .i64 b.p, .int .i64 b.f] 23))
 clear hT hE
 go_enter Tryd.func4, Tryd.ntmps4
 go_wp2_with (fail)
 generalize hw0 : ((w.alloc _).alloc _) = w0 at *
 clear hw0
 refine (awake_any w0 (HT.out.next HB0.out)).mono ?_
 rintro e w1 ⟨rfl, hb⟩
 have HB1 := Lib.hid (Below.next HB0.out hb)
 have HD11 := Lib.hid (HD1.out.next hb)
 have HD21 := Lib.hid (HD2.out.next hb)
 clear hb HD1 HD2
 by_cases h200 : (200 : Int) < (s.size : Int)
 · have t1 : decide ((200 : Int) < (s.size : Int)) = true := decide_eq_true h200
   go_wp2_with (fail)
   refine (awake_any w1 (HT.out.next HB1.out)).mono ?_
   rintro e w2 ⟨rfl, hb⟩
   have HB2 := Lib.hid (Below.next HB1.out hb)
   clear hb
   go_wp2_with (fail)
   go_ret
   exact ⟨rfl, HB2.out⟩
 · have t1 : decide ((200 : Int) < (s.size : Int)) = false := decide_eq_false h200
   have hs2 : s.size ≤ 1000000 := by omega
   go_upto_region 3 with (fail)
   go_cut [37] from 17 to 37 (fun s37 wx => s37 = .bool false ∧ Hid (Below w1.heap.size w1 wx))
   case first =>
    have a0 := fun q : Over w1 => (HD11.out.over q).c 0 _ rfl; have a1 := fun q : Over w1 => (HD11.out.over q).c 1 _ rfl; have a2 := fun q : Over w1 => (HD11.out.over q).c 2 _ rfl; have a3 := fun q : Over w1 => (HD11.out.over q).c 3 _ rfl
    have b0 := fun q : Over w1 => (HD21.out.over q).c 0 _ rfl; have b1 := fun q : Over w1 => (HD21.out.over q).c 1 _ rfl; have b2 := fun q : Over w1 => (HD21.out.over q).c 2 _ rfl; have b3 := fun q : Over w1 => (HD21.out.over q).c 3 _ rfl
    have HOa := Lib.hid (fun q : Over w1 => over_gives q (lof_any a q.val))
    have HOb := Lib.hid (fun q : Over w1 => over_gives q (lof_any b q.val))
    have hra := fun q : Over w1 => over_gives q (right_any a q.val)
    have hrb := fun q : Over w1 => over_gives q (right_any b q.val)
    cases hrta : rt a
    · rw [hrta] at hra
      have HRa := Lib.hid hra; have HRb := Lib.hid hrb
      clear hra hrb
      refine wp_over (by kernel_rfl) (by kernel_rfl) ?_
      repeat (go_big_quiet_step (first | with_reducible exact HOa.out _ | with_reducible exact HOb.out _ | with_reducible exact HRa.out _ | with_reducible exact HRb.out _))
      refine wpQuiet_nil ?_
      rintro w2 ⟨⟨w2, hb2⟩, rfl⟩
      have HB2 := Lib.hid hb2
      clear hb2 a0 a1 a2 a3 b0 b1 b2 b3 HOa HOb HRa HRb
      go_wp2_with (fail)
      go_meet
      exact ⟨rfl, HB2⟩
    · rw [hrta] at hra
      cases hrtb : rt b
      · rw [hrtb] at hrb
        have HRa := Lib.hid hra; have HRb := Lib.hid hrb
        clear hra hrb
        refine wp_over (by kernel_rfl) (by kernel_rfl) ?_
        repeat (go_big_quiet_step (first | with_reducible exact HOa.out _ | with_reducible exact HOb.out _ | with_reducible exact HRa.out _ | with_reducible exact HRb.out _))
        refine wpQuiet_nil ?_
        rintro w2 ⟨⟨w2, hb2⟩, rfl⟩
        have HB2 := Lib.hid hb2
        clear hb2 a0 a1 a2 a3 b0 b1 b2 b3 HOa HOb HRa HRb
        go_wp2_with (fail)
        go_meet
        exact ⟨rfl, HB2⟩
      · rw [hrtb] at hrb
        have HRa := Lib.hid hra; have HRb := Lib.hid hrb
        clear hra hrb
        have HNa := Lib.hid (fun q : Over w1 => over_gives q (name_any a q.val (HT.out.next (Below.next HB1.out q.property))))
        have HNb := Lib.hid (fun q : Over w1 => over_gives q (name_any b q.val (HT.out.next (Below.next HB1.out q.property))))
        have hqe : ((tx (nm a)).toList == (tx (nm b)).toList) = decide (a = b) := by
         rw [ByteArray.toList_eq, ByteArray.toList_eq, tx_list, tx_list, Bool.eq_iff_iff]
         simp only [beq_iff_eq, decide_eq_true_eq]
         exact ⟨fun h => nm_inj hrta hrtb h, fun h => by rw [h]⟩
        have heq := fun w => eql_rid a b w
        generalize tx (nm a) = NA at *
        generalize tx (nm b) = NB at *
        by_cases hab : a = b
        · rw [decide_eq_true hab] at hqe heq
          clear hab
          refine wp_over (by kernel_rfl) (by kernel_rfl) ?_
          repeat (go_big_quiet_step (first | with_reducible exact HOa.out _ | with_reducible exact HOb.out _ | with_reducible exact HRa.out _ | with_reducible exact HRb.out _ | with_reducible exact HNa.out _ | with_reducible exact HNb.out _))
          refine wpQuiet_nil ?_
          rintro w2 ⟨⟨w2, hb2⟩, rfl⟩
          have HB2 := Lib.hid hb2
          clear hb2 a0 a1 a2 a3 b0 b1 b2 b3 HOa HOb HRa HRb HNa HNb
          go_wp2_with (fail)
          go_meet
          exact ⟨rfl, HB2⟩
        · rw [decide_eq_false hab] at hqe heq
          clear hab
          refine wp_over (by kernel_rfl) (by kernel_rfl) ?_
          repeat (go_big_quiet_step (first | with_reducible exact HOa.out _ | with_reducible exact HOb.out _ | with_reducible exact HRa.out _ | with_reducible exact HRb.out _ | with_reducible exact HNa.out _ | with_reducible exact HNb.out _))
          refine wpQuiet_nil ?_
          rintro w2 ⟨⟨w2, hb2⟩, rfl⟩
          have HB2 := Lib.hid hb2
          clear hb2 a0 a1 a2 a3 b0 b1 b2 b3 HOa HOb HRa HRb HNa HNb
          go_wp2_with (fail)
          go_meet
          exact ⟨rfl, HB2⟩
   case rest =>
    obtain ⟨rfl, hb2⟩ := hcut
    generalize wc = w2 at *
    have HB2 := Lib.hid (Below.next HB1.out hb2.out)
    clear hb2 HD11 HD21
    go_wp2_with (fail)
    refine (named_any s hs2 w2 (HT.out.next HB2.out) (HE.out.next HB2.out)).mono ?_
    rintro e w3 ⟨hb, hq⟩
    have HB3 := Lib.hid (Below.next HB2.out hb)
    clear hb
    rcases hq with ⟨x, hx, hn, rfl⟩ | ⟨_, rfl⟩
    · have HD4 := Lib.hid (Blk.made w3 28 [.int .i64 x.t, .int .i64 x.a, .int .i64 x.p, .int .i64 x.f] rfl)
      have HB4 := Lib.hid (HB3.out.alloc HB3.out.size (.cells #[.int .i64 x.t, .int .i64 x.a, .int .i64 x.p, .int .i64 x.f] 28))
      have hnx := fun W h => name_any x W h
      have hrx := fun W => right_any x W
      have hqs : ((tx (nm x)).toList == s.toList) = true := by rw [ByteArray.toList_eq, ByteArray.toList_eq, tx_list, hn]; simp
      rw [hx] at hrx
      clear hn hx
      generalize tx (nm x) = NX at *
      go_wp2_with (fail)
      refine (hnx _ (HT.out.next HB4.out)).mono ?_
      rintro e w5 ⟨rfl, hb⟩
      have HD5 := Lib.hid (HD4.out.next hb)
      have HB5 := Lib.hid (Below.next HB4.out hb)
      have c0 := HD5.out.c 0 _ rfl; have c1 := HD5.out.c 1 _ rfl; have c2 := HD5.out.c 2 _ rfl; have c3 := HD5.out.c 3 _ rfl
      clear hb HD4 HB4 hnx
      go_wp2_with (fail)
      refine (hrx _).mono ?_
      rintro e w6 ⟨rfl, hb⟩
      have HB6 := Lib.hid (Below.next HB5.out hb)
      clear hb
      go_wp2_with (fail)
      go_ret
      exact ⟨rfl, HB6.out⟩
    · have HB4 := Lib.hid (HB3.out.alloc HB3.out.size (.cells #[.int .i64 0, .int .i64 0, .int .i64 0, .int .i64 0] 28))
      have hez : ∀ w, (binOp .eql 28 (.agg #[.int .i64 0, .int .i64 0, .int .i64 0, .int .i64 0]) (.agg #[.int .i64 0, .int .i64 0, .int .i64 0, .int .i64 0])).run Tryd.prog w = .ok (.bool true) w := fun w => eql_id z0 z0 w
      go_wp2_with (fail)
      go_ret
      exact ⟨rfl, HB4.out⟩
end Go.Proofs.YtchmepalhldpcaaDoor.Fr
namespace Go.Proofs.YtchmepalhldpcaaDoor.Cr
open Go.ChangeShapes Go.WideShapes Go.ChangeAt Go.RowKit Ov
def MW (w : World) : World := w.alloc (.cells (TA (hs 8)) 94)
theorem MW_at (w : World) (i : Nat) (h : i < 256) : (MW w).cell? ⟨w.heap.size, i, none⟩ = some (.int .u32 (hs 8 i : Int)) := by
 unfold MW
 rw [World.cell?_alloc_at _ _ _ _ rfl]; exact TA_get _ i h
theorem MW_store (w : World) : (storeCells ⟨w.heap.size, 0, none⟩ (TA (hs 8)).toList).run Tryd.prog (w.alloc (.cells (TA fun _ => 0) 94)) = .ok () (MW w) :=
 run_storeCells_new w 94 _ _ (TA_info _) (by rw [TA_size, TA_size]) (TA_one _)
theorem MW_below {w w1 : World} (h : Below w.heap.size w w1) : Below w.heap.size w (MW w1) := h.alloc h.size _
theorem st_bits (n : Nat) (b : UInt8) (hn : n < 4294967296) : bits .xor .u32 ((n / 256 : Nat) : Int) ((hs 8 (n % 256 ^^^ b.toNat) : Nat) : Int) = (st n b : Nat) := by
 have h8 : n % 256 ^^^ b.toNat < 256 := Nat.xor_lt_two_pow (n := 8) (by omega) b.toNat_lt
 rw [bits_xor_u32 _ _ (by omega) (hs_lt 8 (by omega)), st_tab]
theorem nt_bits {s : Nat} (h : s < 4294967296) : bits .xor .u32 IntKind.u32.max (s : Int) = (nt s : Nat) := bits_xor_u32 4294967295 s (by omega) h
def RelM (s : Nat) (t : ByteArray) (N I : Value) : Prop := ∃ k : Nat, k ≤ t.size ∧ N = .int .u32 (run (nt s) (t.data.toList.take k) : Nat) ∧ I = .int .i64 (k : Int)
set_option maxRecDepth 100000 in
set_option maxHeartbeats 1000000 in
theorem more_any (s : Nat) (t : ByteArray) (w : World) (hs' : s < 4294967296) (ht : t.size ≤ 1000000) :
 Calls Tryd.prog 49 #[.int .u32 (s : Int), .string t] w fun e w' => e = .returned (.int .u32 (mo s t.data.toList : Nat)) ∧ Below w.heap.size w w' := by
 have hz := zeroT
 have HN := Lib.hid (nt_bits hs')
 go_enter Tryd.func49, Tryd.ntmps49
 go_wp2_with (fail)
 refine (table_any _).mono ?_
 rintro e w1 ⟨rfl, hb⟩
 have HB := Lib.hid (MW_below hb); clear hb
 have HC := Lib.hid (MW_at w1)
 have hst := MW_store w1
 go_wp2_with (fail)
 clear hst hz
 generalize MW w1 = wm at *
 go_loop [6, 13] (fun N I => RelM s t N I) (fun _ I => t.size - (intOf I).toNat)
 case atStart => exact ⟨0, by omega, by rw [HN.out]; rfl, rfl⟩
 case round =>
  obtain ⟨k, hk, rfl, rfl⟩ := hrel
  have hl := run_lt (t.data.toList.take k) (nt_lt hs')
  by_cases hlt : k < t.size
  · have HR : Hid (run (nt s) (t.data.toList.take (k + 1)) = st (run (nt s) (t.data.toList.take k)) t[k]) := by
     show _ = _
     rw [take_snoc t k hlt, run_snoc]
    generalize run (nt s) (t.data.toList.take k) = n at *
    have e2 := bits_xor_u8 (n % 256) t[k].toNat (by omega) (UInt8.toNat_lt _)
    have h8 : n % 256 ^^^ t[k].toNat < 256 := Nat.xor_lt_two_pow (n := 8) (by omega) (UInt8.toNat_lt _)
    have hc := HC.out (n % 256 ^^^ t[k].toNat) h8
    have HX := Lib.hid (st_bits n t[k] hl)
    generalize n % 256 ^^^ t[k].toNat = x at e2 h8 hc HX
    have e3 : bits .xor .u8 ((n : Int) % 256) (t[k].toNat : Int) = (x : Int) := e2
    clear e2
    have k0 : (k : Int) < (t.size : Int) := by omega
    go_wp2_with (fail)
    go_round
    case rel => exact ⟨k + 1, by omega, by rw [HR.out, ← HX.out]; rfl, by go_num⟩
    case measure => simp [intOf]; omega
  · obtain rfl : k = t.size := by omega
    rw [take_all] at hl ⊢
    have HN2 := Lib.hid (nt_bits hl)
    have hge : ¬ (t.size : Int) < (t.size : Int) := by omega
    go_wp2_with (fail)
    go_ret
    exact ⟨ret_int HN2.out, HB.out⟩
set_option maxHeartbeats 1000000 in
theorem sum_any (t : ByteArray) (w : World) (ht : t.size ≤ 1000000) :
 Calls Tryd.prog 40 #[.string t] w fun e w' => e = .returned (.int .u32 (sm t.data.toList : Nat)) ∧ Below w.heap.size w w' := by
 go_enter Tryd.func40, Tryd.ntmps40
 go_wp2_with (fail)
 refine (more_any 0 t _ (by omega) ht).mono ?_
 rintro e w1 ⟨rfl, hb⟩
 have HB := Lib.hid hb; clear hb
 go_wp2_with (fail)
 go_ret
 exact ⟨rfl, HB.out⟩
theorem sb_at {x : Nat} (j : Nat) (hj : j < (sb x).length) : (sb x)[j] = by8 x j := by
 have h4 : j < 4 := hj
 match j, h4 with
 | 0, _ => rfl
 | 1, _ => rfl
 | 2, _ => rfl
 | 3, _ => rfl
def RelB (w : World) (B x : Nat) (I : Value) (wr : World) : Prop := ∃ k : Nat, k ≤ 4 ∧ I = .int .i64 (k : Int) ∧ RowTo w B 5 4 (fun i => .int .u8 (by8 x i).toNat) (.int .u8 0) k wr
set_option maxRecDepth 100000 in
set_option maxHeartbeats 1000000 in
theorem sumBytes_any (t : ByteArray) (w : World) (ht : t.size ≤ 1000000) :
 Calls Tryd.prog 29 #[.string t] w fun e w' => e = .returned (.string (tx (sb (sm t.data.toList)))) ∧ Below w.heap.size w w' := by
 have hmk : ∀ w, (Instr.makeSlice 39 (.int .i64 4) (.int .i64 4)).run Tryd.prog w = .ok (.slice (some ⟨w.heap.size, 0, none⟩) 4 4) (w.alloc (.cells (madeCells #[.int .u8 0] 4) 5)) :=
  run_make_row' (P := Tryd.prog) 39 5 (.int .u8 0) 1 Tryd.underlying39 info8 rfl .i64 .i64 4 (by omega) (by omega)
 go_enter Tryd.func29, Tryd.ntmps29
 go_wp2_with (fail)
 refine (sum_any t _ ht).mono ?_
 rintro e w1 ⟨rfl, hb⟩
 have HB := Lib.hid hb; clear hb
 have hl := sm_lt t.data.toList
 generalize hx : sm t.data.toList = x at *
 have HX := Lib.hid hx; clear hx
 go_wp2_with (fail)
 clear hmk
 go_loopw [11] (fun I wr => RelB w w1.heap.size x I wr) (fun I _ => 4 - (intOf I).toNat)
 case atStart => exact ⟨0, by omega, rfl, RowTo.start HB.out _ 4 _ _⟩
 case round =>
  obtain ⟨k, hk, rfl, hR⟩ := hrel
  have HR := Lib.hid hR; clear hR
  by_cases hlt : k < 4
  · have hc := HR.out.cell hlt
    have hf := HR.out.row.frozen k
    go_wp2_with (fail)
    go_roundw
    case rel => exact ⟨k + 1, by omega, by go_num, HR.out.set (by rw [by8_n]; simp)⟩
    case measure => simp [intOf]; omega
  · obtain rfl : k = 4 := by omega
    have hcv := run_text (w := wr) (b := w1.heap.size) (o := 0) (c := 4) (l := sb x) (m := 4) rfl (fun j hj => by
     rw [Nat.zero_add, HR.out.done.cell hj, sb_at j hj])
    go_wp2_with (fail)
    go_ret
    exact ⟨by rw [HX.out]; rfl, HR.out.below⟩
set_option maxHeartbeats 1000000 in
theorem seal_any (t : ByteArray) (w : World) (ht : t.size ≤ 1000000) :
 Calls Tryd.prog 16 #[.string t] w fun e w' => e = .returned (.string (tx (sl t.data.toList))) ∧ Below w.heap.size w w' := by
 have HE : Hid (t ++ tx (sb (sm t.data.toList)) = tx (sl t.data.toList)) := tx_ext (by rw [list_append, tx_list]; rfl)
 have hz : (tx (sb (sm t.data.toList))).size ≤ 4 := by rw [tx_size]; exact Nat.le_refl _
 go_enter Tryd.func16, Tryd.ntmps16
 go_wp2_with (fail)
 refine (sumBytes_any t _ ht).mono ?_
 rintro e w1 ⟨rfl, hb⟩
 have HB := Lib.hid hb; clear hb
 generalize tx (sb (sm t.data.toList)) = u at *
 have hz' : ¬ t.size + u.size > 9223372036854775807 := by omega
 go_wp2_with (fail)
 go_ret
 exact ⟨ret_str HE.out, HB.out⟩
theorem sumBytes_ext (t : ByteArray) (n : Nat) (w : World) (ht : t.size ≤ 1000000) :
 Calls Tryd.prog 29 #[.string (t.extract 0 n)] w fun e w' => e = .returned (.string (tx (sb (sm (t.data.toList.take n))))) ∧ Below w.heap.size w w' := by
 rw [ext_take]
 have h := sumBytes_any (tx (t.data.toList.take n)) w (by rw [tx_size]; have := List.length_take_le' n t.data.toList; simp at this ⊢; omega)
 rw [tx_list] at h
 exact h
theorem eq_bool (t : ByteArray) (l : List UInt8) : ((t.extract (t.size - 4) t.size).toList == (tx l).toList) = decide (t.data.toList.drop (t.size - 4) = l) := by
 rw [ByteArray.toList_eq, ByteArray.toList_eq, ext_drop, tx_list, tx_list]
 rw [Bool.eq_iff_iff]; simp
set_option maxHeartbeats 1000000 in
theorem open_short (t : ByteArray) (w : World) (ht : t.size < 4) :
 Calls Tryd.prog 20 #[.string t] w fun e w' => e = .returned (.tuple #[.string ⟨#[]⟩, .int .i64 2]) ∧ Below w.heap.size w w' := by
 go_enter Tryd.func20, Tryd.ntmps20
 go_wp2_with (fail)
 go_ret2
 exact ⟨rfl, Below.refl _ _⟩
set_option maxHeartbeats 1000000 in
theorem open_bad (t : ByteArray) (w : World) (ht : 4 ≤ t.size) (hm : t.size ≤ 1000000) (hne : t.data.toList.drop (t.size - 4) ≠ sb (sm (t.data.toList.take (t.size - 4)))) :
 Calls Tryd.prog 20 #[.string t] w fun e w' => e = .returned (.tuple #[.string ⟨#[]⟩, .int .i64 7]) ∧ Below w.heap.size w w' := by
 have hq := (eq_bool t (sb (sm (t.data.toList.take (t.size - 4))))).trans (decide_eq_false hne)
 clear hne
 go_enter Tryd.func20, Tryd.ntmps20
 go_wp2_with (fail)
 refine wp_over (by kernel_rfl) (by kernel_rfl) ?_
 repeat (go_big_quiet_step ((go_at_call 29; exact over_make _ (sumBytes_ext t (t.size - 4) _ hm))))
 refine wpQuiet_nil ?_
 rintro wq ⟨⟨w1, hb⟩, hw⟩
 obtain rfl : w1 = wq := hw.symm
 have HB : Hid (Below w.heap.size w w1) := hb
 clear hb hw
 go_wp2_with (fail)
 go_ret2
 exact ⟨rfl, HB.out⟩
set_option maxHeartbeats 1000000 in
theorem open_yes (t : ByteArray) (w : World) (ht : 4 ≤ t.size) (hm : t.size ≤ 1000000) (heq : t.data.toList.drop (t.size - 4) = sb (sm (t.data.toList.take (t.size - 4)))) :
 Calls Tryd.prog 20 #[.string t] w fun e w' => e = .returned (.tuple #[.string (tx (t.data.toList.take (t.size - 4))), .int .i64 0]) ∧ Below w.heap.size w w' := by
 have hq := (eq_bool t (sb (sm (t.data.toList.take (t.size - 4))))).trans (decide_eq_true heq)
 clear heq
 go_enter Tryd.func20, Tryd.ntmps20
 go_wp2_with (fail)
 refine wp_over (by kernel_rfl) (by kernel_rfl) ?_
 repeat (go_big_quiet_step ((go_at_call 29; exact over_make _ (sumBytes_ext t (t.size - 4) _ hm))))
 refine wpQuiet_nil ?_
 rintro wq ⟨⟨w1, hb⟩, hw⟩
 obtain rfl : w1 = wq := hw.symm
 have HB : Hid (Below w.heap.size w w1) := hb
 clear hb hw
 go_wp2_with (fail)
 refine (clone_any _ _ (by rw [ext_take, tx_size]; have := List.length_take_le' (t.size - 4) t.data.toList; simp at this ⊢; omega)).mono ?_
 rintro e w2 ⟨rfl, hb2⟩
 have HB2 := Lib.hid (Below.next HB.out hb2); clear hb2
 go_wp2_with (fail)
 go_ret2
 exact ⟨by rw [← ext_take]; rfl, HB2.out⟩
end Go.Proofs.YtchmepalhldpcaaDoor.Cr
namespace Go.Proofs.YtchmepalhldpcaaDoor.Fr
open Go.ChangeShapes Go.WideShapes Go.ChangeAt Go.RowKit Ov Tp Cr
def fk (x : Fd) : Nat → List UInt8
 | 0 => []
 | k + 1 => fk x k ++ nb ((ns x).getD k 0).toNat
def body (x : Fd) (p : List UInt8) : List UInt8 := fk x 4 ++ (nb p.length ++ p)
def fr (x : Fd) (p : List UInt8) : List UInt8 := sl (body x p)
theorem fk_len {x : Fd} (h : rt x = true) : ∀ k, k ≤ 4 → (fk x k).length ≤ 8 * k
 | 0, _ => Nat.le_refl _
 | k + 1, hk => by
   have h1 := fk_len h k (by omega)
   have h2 := ns_at h k (by omega)
   have h3 := nb_len8 (n := ((ns x).getD k 0).toNat) (by omega)
   simp only [fk, List.length_append]
   omega
theorem body_len {x : Fd} (h : rt x = true) {p : List UInt8} (hp : p.length ≤ 900000) : (body x p).length ≤ p.length + 40 := by
 have h1 := fk_len h 4 (by omega)
 have h2 := nb_len8 (n := p.length) (by omega)
 unfold body
 rw [List.length_append, List.length_append]
 omega
theorem fr_len {x : Fd} (h : rt x = true) {p : List UInt8} (hp : p.length ≤ 900000) : (fr x p).length ≤ p.length + 44 := by
 have := body_len h hp
 have e : (fr x p).length = (body x p).length + 4 := by unfold fr sl; rw [List.length_append, sb_length]
 omega
set_option maxRecDepth 100000 in
set_option maxHeartbeats 2000000 in
theorem frame_no (x : Fd) (t : ByteArray) (w : World) (hx : rt x = false) :
 Calls Tryd.prog 6 #[.agg #[.int .i64 x.t, .int .i64 x.a, .int .i64 x.p, .int .i64 x.f], .string t] w (Gives (.tuple #[.string ⟨#[]⟩, .int .i64 1]) w) := by
 have hr := right_any x (w.alloc (.cells #[.int .i64 x.t, .int .i64 x.a, .int .i64 x.p, .int .i64 x.f] 28))
 have HB0 := Lib.hid (box1 w (.cells #[.int .i64 x.t, .int .i64 x.a, .int .i64 x.p, .int .i64 x.f] 28))
 rw [hx] at hr
 go_enter Tryd.func6, Tryd.ntmps6
 go_wp2_with (fail)
 refine hr.mono ?_
 rintro e w1 ⟨rfl, hb⟩
 have HB := Lib.hid (Below.next HB0.out hb)
 clear hb hr
 go_wp2_with (fail)
 go_ret2
 exact ⟨rfl, HB.out⟩
set_option maxRecDepth 100000 in
set_option maxHeartbeats 4000000 in
theorem frame_yes (x : Fd) (t : ByteArray) (w : World) (hx : rt x = true) (ht : t.size ≤ 900000) :
 Calls Tryd.prog 6 #[.agg #[.int .i64 x.t, .int .i64 x.a, .int .i64 x.p, .int .i64 x.f], .string t] w (Gives (.tuple #[.string (tx (fr x t.data.toList)), .int .i64 0]) w) := by
 have hr := right_any x (w.alloc (.cells #[.int .i64 x.t, .int .i64 x.a, .int .i64 x.p, .int .i64 x.f] 28))
 have HX := Lib.hid (Blk.made w 28 [.int .i64 x.t, .int .i64 x.a, .int .i64 x.p, .int .i64 x.f] rfl)
 have HB0 := Lib.hid (box1 w (.cells #[.int .i64 x.t, .int .i64 x.a, .int .i64 x.p, .int .i64 x.f] 28))
 have HRT := Lib.hid hx
 have ho := of_any x
 rw [hx] at hr
 have hle : ¬ (1048576 : Int) < (t.size : Int) := by omega
 have hlt0 : decide ((1048576 : Int) < (t.size : Int)) = false := decide_eq_false hle
 have hsl : (t.data.toList).length = t.size := by simp
 go_enter Tryd.func6, Tryd.ntmps6
 go_wp2_with (fail)
 refine hr.mono ?_
 rintro e w1 ⟨rfl, hb⟩
 have HX1 := Lib.hid (HX.out.next hb)
 have HB1 := Lib.hid (Below.next HB0.out hb)
 have c0 := HX1.out.c 0 _ rfl; have c1 := HX1.out.c 1 _ rfl; have c2 := HX1.out.c 2 _ rfl; have c3 := HX1.out.c 3 _ rfl
 have hlt1 := HX1.out.lt
 have hn1 : ¬ w.heap.size = w1.heap.size := by omega
 have hn2 : ¬ w1.heap.size = w.heap.size := by omega
 clear hb hr HX HB0
 go_wp2_with (fail)
 refine (ho _).mono ?_
 rintro e w2 ⟨rfl, hb⟩
 have HD2 : Hid (Bld w1.heap.size w1.heap.size [] w2) := (Bld.fresh w1).old hb
 have HB2 : Hid (Below w.heap.size w w2) := (HB1.out.alloc HB1.out.size _).trans (hb.mono (by simp; have := HB1.out.size; omega))
 have HZ2 : Hid (w1.heap.size ≤ w2.heap.size) := by have := hb.size; simp at this; show _ ≤ _; omega
 clear hb ho
 go_wp2_with (fail)
 go_loopw [19] (fun i wr => ∃ k : Nat, k ≤ 4 ∧ i = .int .i64 (k : Int) ∧ Hid (Bld w1.heap.size w1.heap.size (fk x k) wr) ∧ Hid (Below w.heap.size w wr) ∧ Hid (w1.heap.size ≤ wr.heap.size)) (fun i _ => 4 - (intOf i).toNat)
 case atStart => exact ⟨0, by omega, rfl, HD2, HB2, HZ2⟩
 case round =>
  obtain ⟨k, hk, rfl, hd, hb, hz⟩ := hrel
  by_cases hlt : k < 4
  · have hix := fun W => index_ns x k hlt W
    have hlt' : (k : Int) < 4 := by omega
    have HL := Lib.hid (fk_len HRT.out k hk)
    have HN := Lib.hid (ns_at HRT.out k hlt)
    have HP : Hid (fk x (k + 1) = fk x k ++ (tx (nb ((ns x).getD k 0).toNat)).data.toList) := by show _ = _; rw [tx_list]; rfl
    generalize (ns x).getD k 0 = n at hix HP HN
    obtain ⟨m, rfl⟩ : ∃ m : Nat, n = (m : Int) := ⟨n.toNat, by have := HN.out; omega⟩
    rw [Int.toNat_natCast] at HP
    have hm : m ≤ 9007199254740991 := by have := HN.out; omega
    have hnum := fun W => num_any (m : Int) W
    rw [nv_nat hm] at hnum
    have h8 : (tx (nb m)).size ≤ 8 := by rw [tx_size]; exact nb_len8 hm
    generalize tx (nb m) = S at *
    go_wp2_with (fail)
    refine (hnum _).mono ?_
    rintro e w3 ⟨rfl, hb3⟩
    have HD3 := Lib.hid (hd.out.old hb3)
    have HB3 := Lib.hid (Below.next hb.out hb3)
    have HZ3 : Hid (w1.heap.size ≤ w3.heap.size) := Nat.le_trans hz.out hb3.size
    clear hb3
    go_wp2_with (fail)
    refine (write_any _ _ _ S _ HD3.out (by have := HL.out; omega) HZ3.out).mono ?_
    rintro e w5 ⟨rfl, hd5, hb5⟩
    have HD5 := Lib.hid (hd5.cast HP.out.symm)
    have HB5 : Hid (Below w.heap.size w w5) := HB3.out.trans (hb5.mono (by have := HB1.out.size; omega))
    have HZ5 : Hid (w1.heap.size ≤ w5.heap.size) := Nat.le_trans HZ3.out hb5.size
    clear hd5 hb5
    go_wp2_with (fail)
    go_roundw
    · exact ⟨k + 1, by omega, by first | rfl | (congr 1; omega), HD5, HB5, HZ5⟩
    · simp [intOf]; omega
  · obtain rfl : k = 4 := by omega
    have HL := Lib.hid (fk_len HRT.out 4 (Nat.le_refl _))
    have htx := fun W => text_any t W (by omega)
    have h8 : (tx (nb t.size ++ t.data.toList)).size ≤ t.size + 8 := by rw [tx_size, List.length_append, hsl]; have := nb_len8 (n := t.size) (by omega); omega
    have HBD : Hid (body x t.data.toList = fk x 4 ++ (tx (nb t.size ++ t.data.toList)).data.toList) := by show _ = _; unfold body; rw [tx_list, hsl]
    have hseal := fun W => seal_any (tx (body x t.data.toList)) W (by rw [tx_size]; have := body_len HRT.out (p := t.data.toList) (by omega); omega)
    rw [tx_list] at hseal
    generalize tx (nb t.size ++ t.data.toList) = S at *
    go_wp2_with (fail)
    refine (htx _).mono ?_
    rintro e w3 ⟨rfl, hb3⟩
    have HD3 := Lib.hid (hd.out.old hb3)
    have HB3 := Lib.hid (Below.next hb.out hb3)
    have HZ3 : Hid (w1.heap.size ≤ w3.heap.size) := Nat.le_trans hz.out hb3.size
    clear hb3 htx hd hb hz
    go_wp2_with (fail)
    refine (write_any _ _ _ S _ HD3.out (by have := HL.out; omega) HZ3.out).mono ?_
    rintro e w5 ⟨rfl, hd5, hb5⟩
    have HD5 := Lib.hid (hd5.cast HBD.out.symm)
    have HB5 : Hid (Below w.heap.size w w5) := HB3.out.trans (hb5.mono (by have := HB1.out.size; omega))
    have HZ5 : Hid (w1.heap.size ≤ w5.heap.size) := Nat.le_trans HZ3.out hb5.size
    clear hd5 hb5 HD3 HB3 HZ3
    go_wp2_with (fail)
    refine (string_any _ _ _ _ HD5.out HZ5.out).mono ?_
    rintro e w6 ⟨rfl, hb6⟩
    have HB6 : Hid (Below w.heap.size w w6) := HB5.out.trans (hb6.mono (by have := HB1.out.size; omega))
    clear hb6
    go_wp2_with (fail)
    refine (hseal _).mono ?_
    rintro e w7 ⟨rfl, hb7⟩
    have HB7 := Lib.hid (Below.next HB6.out hb7)
    clear hb7
    go_wp2_with (fail)
    go_ret2
    exact ⟨rfl, HB7.out⟩
end Go.Proofs.YtchmepalhldpcaaDoor.Fr
namespace Go.Proofs.YtchmepalhldpcaaDoor.Cr
open Go.ChangeShapes Go.WideShapes Go.ChangeAt Go.RowKit Ov
def opv (l : List UInt8) : List UInt8 × Int :=
 if l.length < 4 then ([], 2) else if l.drop (l.length - 4) = sb (sm (l.take (l.length - 4))) then (l.take (l.length - 4), 0) else ([], 7)
theorem opv_sl (l : List UInt8) : opv (sl l) = (l, 0) := by
 have e : (sl l).length - 4 = l.length := by simp [sl, sb_length]
 have h1 : (sl l).take l.length = l := by simp [sl]
 have h2 : (sl l).drop l.length = sb (sm l) := by simp [sl]
 unfold opv
 rw [if_neg (by simp [sl, sb_length]), e, h1, h2, if_pos rfl]
theorem size_list (t : ByteArray) : t.data.toList.length = t.size := by simp
theorem open_any (t : ByteArray) (w : World) (hm : t.size ≤ 1000000) :
 Calls Tryd.prog 20 #[.string t] w fun e w' => e = .returned (.tuple #[.string (tx (opv t.data.toList).1), .int .i64 (opv t.data.toList).2]) ∧ Below w.heap.size w w' := by
 unfold opv
 rw [size_list]
 by_cases h : t.size < 4
 · rw [if_pos h]; exact open_short t w h
 · rw [if_neg h]
   by_cases e : t.data.toList.drop (t.size - 4) = sb (sm (t.data.toList.take (t.size - 4)))
   · rw [if_pos e]; exact open_yes t w (by omega) hm e
   · rw [if_neg e]; exact open_bad t w (by omega) hm e
end Go.Proofs.YtchmepalhldpcaaDoor.Cr
namespace Go.Proofs.YtchmepalhldpcaaDoor.Fr
open Go.ChangeShapes Go.WideShapes Go.ChangeAt Go.RowKit Ov Tp Cr
theorem blk_tur {w w' : World} {R b : Nat} {vs : List Value} (h : Blk w R vs) (k : Tur b w w') (hne : R ≠ b) : Blk w' R vs := h.kp (O := (· = b)) ⟨k.os, k.tape, k.output, k.size, k.block⟩ hne
theorem body_split (x : Fd) (p : List UInt8) (k : Nat) : ∀ m, k ≤ m → ∃ r, fk x m = fk x k ++ r
 | 0, h => ⟨[], by rw [show k = 0 by omega]; rfl⟩
 | m + 1, h => by
   by_cases e : k = m + 1
   · subst e; exact ⟨[], by simp⟩
   · obtain ⟨r, hr⟩ := body_split x p k m (by omega)
     exact ⟨r ++ nb ((ns x).getD m 0).toNat, by rw [fk, hr, List.append_assoc]⟩
def rs (x : Fd) (p : List UInt8) (k : Nat) : List UInt8 := (body x p).drop (fk x k).length
theorem rs_four (x : Fd) (p : List UInt8) : rs x p 4 = nb p.length ++ p := List.drop_left' rfl
theorem rs_succ (x : Fd) (p : List UInt8) {k : Nat} (hk : k < 4) : rs x p k = nb ((ns x).getD k 0).toNat ++ rs x p (k + 1) := by
 obtain ⟨r, hr⟩ := body_split x p (k + 1) 4 (by omega)
 have e : body x p = fk x (k + 1) ++ (r ++ (nb p.length ++ p)) := by unfold body; rw [hr, List.append_assoc]
 have e2 : body x p = fk x k ++ (nb ((ns x).getD k 0).toNat ++ (r ++ (nb p.length ++ p))) := by rw [e, fk, List.append_assoc]
 have h1 : rs x p (k + 1) = r ++ (nb p.length ++ p) := by unfold rs; rw [e]; exact List.drop_left' rfl
 rw [h1]
 unfold rs; rw [e2]; exact List.drop_left' rfl
theorem rs_len (x : Fd) (p : List UInt8) (k : Nat) : (rs x p k).length ≤ (body x p).length := by unfold rs; rw [List.length_drop]; omega
set_option maxRecDepth 100000 in
set_option maxHeartbeats 4000000 in
theorem fopen_yes (x : Fd) (p : List UInt8) (w : World) (hx : rt x = true) (hp : p.length ≤ 900000) :
 Calls Tryd.prog 10 #[.string (tx (fr x p))] w (Gives (.tuple #[.agg #[.int .i64 x.t, .int .i64 x.a, .int .i64 x.p, .int .i64 x.f], .string (tx p), .int .i64 0]) w) := by
 have hbl := body_len hx hp
 have hop := fun W => open_any (tx (fr x p)) W (by rw [tx_size]; have := fr_len hx hp; omega)
 rw [tx_list, show fr x p = sl (body x p) from rfl, opv_sl] at hop
 have hnew := fun W => new_any (tx (body x p)) W (by rw [tx_size]; omega)
 rw [tx_list] at hnew
 have HR0 := Lib.hid (Blk.made w 28 [.int .i64 0, .int .i64 0, .int .i64 0, .int .i64 0] rfl)
 have HB0 := Lib.hid (box1 w (.cells #[.int .i64 0, .int .i64 0, .int .i64 0, .int .i64 0] 28))
 have HRT := Lib.hid hx; have HBL := Lib.hid hbl; have HPL := Lib.hid hp
 clear hx hbl hp
 show Calls _ _ #[.string (tx (sl (body x p)))] _ _
 generalize tx (sl (body x p)) = s at *
 generalize tx (body x p) = bt at *
 go_enter Tryd.func10, Tryd.ntmps10
 go_wp2_with (fail)
 generalize hw0 : (w.alloc _) = w0 at *
 clear hw0
 refine (hop _).mono ?_
 rintro e w1 ⟨rfl, hb⟩
 have HR1 := Lib.hid (HR0.out.next hb)
 have HB1 := Lib.hid (Below.next HB0.out hb)
 clear hb hop HR0 HB0
 go_wp2_with (fail)
 refine (hnew _).mono ?_
 rintro e w2 ⟨b, rfl, hbl, hit, hb⟩
 have hRb : w.heap.size < b := Nat.lt_of_lt_of_le HR1.out.lt hbl
 have hb2 : b < w2.heap.size := hit.lt
 have HR2 := Lib.hid (HR1.out.next hb)
 have HB2 := Lib.hid (Below.next HB1.out hb)
 have HA3 := Lib.hid (Blk.made w2 43 [.int .i64 0, .int .i64 0, .int .i64 0, .int .i64 0] rfl)
 have HR3 := Lib.hid (HR2.out.old (.cells #[.int .i64 0, .int .i64 0, .int .i64 0, .int .i64 0] 43))
 have HB3 := Lib.hid (HB2.out.alloc HB2.out.size (.cells #[.int .i64 0, .int .i64 0, .int .i64 0, .int .i64 0] 43))
 have HI3 : Hid (IsT (w2.alloc (.cells #[.int .i64 0, .int .i64 0, .int .i64 0, .int .i64 0] 43)) b (rs x p 0)) := One.old hit (box1 w2 _)
 clear hb hnew hit hbl HR1 HB1 HR2
 go_wp2_with (fail)
 generalize hw3 : (w2.alloc _) = w3 at *
 have hAz : w2.heap.size < w3.heap.size := by rw [← hw3]; simp
 clear hw3
 obtain ⟨A, hA⟩ : ∃ A, w2.heap.size = A := ⟨_, rfl⟩
 rw [hA] at HA3 hb2 hAz ⊢
 clear hA
 have hbA : ¬ b = A := by omega
 have hAb : ¬ A = b := by omega
 go_loopw [22] (fun i wr => ∃ (k : Nat) (y : Fd), k ≤ 4 ∧ i = .int .i64 (k : Int) ∧ Hid (∀ j, j < k → (ns y).getD j 0 = (ns x).getD j 0) ∧ Hid (Blk wr w.heap.size [.int .i64 0, .int .i64 0, .int .i64 0, .int .i64 0]) ∧ Hid (Blk wr A (cl y)) ∧ Hid (IsT wr b (rs x p k)) ∧ Hid (Below w.heap.size w wr)) (fun i _ => 4 - (intOf i).toNat)
 case atStart => exact ⟨0, z0, by omega, rfl, Lib.hid (fun j h => absurd h (Nat.not_lt_zero j)), HR3, HA3, HI3, HB3⟩
 case round =>
  obtain ⟨k, y, hk, rfl, HY, HR, HA, HI, HB⟩ := hrel
  by_cases hlt : k < 4
  · have hlt' : (k : Int) < 4 := by omega
    have hnk := ns_at HRT.out k hlt
    have hrs := rs_succ x p hlt
    have hrl := rs_len x p k
    have hbl := HBL.out
    have hpl := HPL.out
    have HYN : Hid (∀ j, j < k + 1 → (ns (upd y k ((ns x).getD k 0))).getD j 0 = (ns x).getD j 0) := Lib.hid fun j hj => by
     rw [upd_at y hlt _ (by omega)]
     by_cases e : j = k
     · subst e; rw [if_pos rfl]
     · rw [if_neg e]; exact HY.out j (by omega)
    have HD := Lib.hid (cl_set y hlt ((ns x).getD k 0))
    have HC := Lib.hid (cl_at y hlt)
    have hnum := num_ok b (rs x p k) (n := ((ns x).getD k 0).toNat) (t := rs x p (k + 1)) wr HI.out (by omega) (by rw [hrs]; exact cn_laid _ _ (by omega))
    rw [show (((ns x).getD k 0).toNat : Int) = (ns x).getD k 0 by omega] at hnum
    clear hrs hrl hnk
    generalize (ns x).getD k 0 = n at hnum HYN HD
    generalize (ns y).getD k 0 = n0 at HC
    have HNUM := Lib.hid hnum
    clear hnum
    go_wp2_with (fail)
    refine HNUM.out.mono ?_
    rintro e w4 ⟨rfl, hit, htu⟩
    have HR4 := Lib.hid (blk_tur HR.out htu (by omega))
    have HA4 := Lib.hid (blk_tur HA.out htu hAb)
    have HB4 := Lib.hid (HB.out.trans (htu.below (lo := w.heap.size) (by omega) HB.out.size))
    have HI4 := Lib.hid hit
    clear hit htu HR HA HB HI HNUM
    have cA := HA4.out.c k _ HC.out
    have fA := HA4.out.f k _ HC.out
    go_wp2_with (fail)
    go_roundw
    · exact ⟨k + 1, upd y k n, by omega, by first | rfl | (congr 1; omega), HYN, Lib.hid (HR4.out.put (c := A) (by omega) _ _), Lib.hid ((HA4.out.set k _).cast HD.out), Lib.hid (One.tur HI4.out ((Tur.refl (b := A)).setCell k _) hbA), Lib.hid (HB4.out.setCell (show w.heap.size ≤ A by omega) _)⟩
    · simp [intOf]; omega
  · obtain rfl : k = 4 := by omega
    obtain rfl : y = x := ns_ext HY.out
    have htx := text_ok b (rs y p 4) 1048576 (n := p.length) (t := p) wr HI.out (by have := rs_len y p 4; have := HBL.out; have := HPL.out; omega) (by rw [rs_four]; exact cc_laid p.length p 1048576 (by have := HPL.out; omega) (by have := HPL.out; omega)) (Nat.le_refl _)
    rw [List.take_length, List.drop_length] at htx
    have HTX := Lib.hid htx
    have hri := fun W => right_any y W
    rw [HRT.out] at hri
    have hid := fun W => id_any y W
    clear htx
    go_wp2_with (fail)
    refine HTX.out.mono ?_
    rintro e w4 ⟨rfl, hit, htu⟩
    have HR4 := Lib.hid (blk_tur HR.out htu (by omega))
    have HA4 := Lib.hid (blk_tur HA.out htu hAb)
    have HB4 := Lib.hid (HB.out.trans (htu.below (lo := w.heap.size) (by omega) HB.out.size))
    have hend := end_yes b [] w4 hit rfl
    clear hit htu HR HA HB HI HTX
    go_wp2_with (fail)
    refine hend.mono ?_
    rintro e w5 ⟨rfl, rfl⟩
    have a0 := HA4.out.c 0 _ rfl; have a1 := HA4.out.c 1 _ rfl; have a2 := HA4.out.c 2 _ rfl; have a3 := HA4.out.c 3 _ rfl
    clear hend
    go_wp2_with (fail)
    refine (hid _).mono ?_
    rintro e w6 ⟨rfl, hb⟩
    have HR6 := Lib.hid (HR4.out.next hb)
    have HA6 := Lib.hid (HA4.out.next hb)
    have HB6 := Lib.hid (Below.next HB4.out hb)
    clear hb a0 a1 a2 a3 HR4 HA4 HB4
    go_wp2_with (fail)
    refine (hri _).mono ?_
    rintro e w7 ⟨rfl, hb⟩
    have HR7 := Lib.hid (HR6.out.next hb)
    have HA7 := Lib.hid (HA6.out.next hb)
    have HB7 := Lib.hid (Below.next HB6.out hb)
    clear hb HR6 HA6 HB6
    have a0 := HA7.out.c 0 _ rfl; have a1 := HA7.out.c 1 _ rfl; have a2 := HA7.out.c 2 _ rfl; have a3 := HA7.out.c 3 _ rfl
    go_wp2_with (fail)
    refine (hid _).mono ?_
    rintro e w8 ⟨rfl, hb⟩
    have HR8 := Lib.hid (HR7.out.next hb)
    have HB8 := Lib.hid (Below.next HB7.out hb)
    clear hb a0 a1 a2 a3 HR7 HA7 HB7
    have c0 := HR8.out.c 0 _ rfl; have c1 := HR8.out.c 1 _ rfl; have c2 := HR8.out.c 2 _ rfl; have c3 := HR8.out.c 3 _ rfl
    have f0 := HR8.out.f 0 _ rfl; have f1 := HR8.out.f 1 _ rfl; have f2 := HR8.out.f 2 _ rfl; have f3 := HR8.out.f 3 _ rfl
    go_wp2_with (fail)
    obtain ⟨hF, hG⟩ := four (p := .int .i64 y.t) (q := .int .i64 y.a) (r := .int .i64 y.p) (s := .int .i64 y.f) HR8.out HB8.out (Nat.le_refl _)
    clear c0 c1 c2 c3 f0 f1 f2 f3
    generalize (((World.setCell w8 _ _).setCell _ _).setCell _ _).setCell _ _ = W at *
    have e0 := hF.c 0 _ rfl; have e1 := hF.c 1 _ rfl; have e2 := hF.c 2 _ rfl; have e3 := hF.c 3 _ rfl
    (try simp only [Exit.inBlock, Exit.then]); refine bodyPost_ret (v := .tuple #[.agg #[.int .i64 y.t, .int .i64 y.a, .int .i64 y.p, .int .i64 y.f], .string (tx p), .int .i64 0]) (by simp [results, Tryd.results10, go_sem, e0, e1, e2, e3]) rfl ⟨rfl, hG⟩
end Go.Proofs.YtchmepalhldpcaaDoor.Fr
namespace Go.Proofs.YtchmepalhldpcaaDoor.Fr
open Go.ChangeShapes Go.WideShapes Go.ChangeAt Go.RowKit Ov
set_option maxRecDepth 100000 in
set_option maxHeartbeats 8000000 in
theorem back_core (x : Fd) (s : ByteArray) (w : World) (hT : Tab w) (hE : Ers w) : Calls Tryd.prog 3 #[.agg #[.int .i64 x.t, .int .i64 x.a, .int .i64 x.p, .int .i64 x.f], .string s] w (Gives (.bool true) w) := by
 have HT := Lib.hid hT; have HE := Lib.hid hE
 have HD := Lib.hid (Blk.made w 23 [.int .i64 x.t, .int .i64 x.a, .int .i64 x.p, .int .i64 x.f] rfl)
 have HB0 := Lib.hid (box1 w (.cells #[.int .i64 x.t, .int .i64 x.a, .int .i64 x.p, .int .i64 x.f] 23))
 clear hT hE
 go_enter Tryd.func3, Tryd.ntmps3
 go_wp2_with (fail)
 generalize hw0 : (w.alloc _) = w0 at *
 clear hw0
 refine (awake_any w0 (HT.out.next HB0.out)).mono ?_
 rintro e w1 ⟨rfl, hb⟩
 have HB1 := Lib.hid (Below.next HB0.out hb)
 have HD1 := Lib.hid (HD.out.next hb)
 clear hb HD
 by_cases h200 : (2000 : Int) < (s.size : Int)
 · have t1 : decide ((2000 : Int) < (s.size : Int)) = true := decide_eq_true h200
   go_wp2_with (fail)
   refine (awake_any w1 (HT.out.next HB1.out)).mono ?_
   rintro e w2 ⟨rfl, hb⟩
   have HB2 := Lib.hid (Below.next HB1.out hb)
   clear hb
   go_wp2_with (fail)
   go_ret
   exact ⟨rfl, HB2.out⟩
 · have t1 : decide ((2000 : Int) < (s.size : Int)) = false := decide_eq_false h200
   have hs2 : s.size ≤ 2000 := by omega
   have c0 := HD1.out.c 0 _ rfl; have c1 := HD1.out.c 1 _ rfl; have c2 := HD1.out.c 2 _ rfl; have c3 := HD1.out.c 3 _ rfl
   have hof := fun W => lof_any x W
   go_wp2_with (fail)
   refine (hof _).mono ?_
   rintro e w2 ⟨rfl, hb⟩
   have HB2 := Lib.hid (Below.next HB1.out hb)
   have HD2 := Lib.hid (HD1.out.next hb)
   clear hb c0 c1 c2 c3 HD1
   cases hrt : rt x
   · have hfr := fun W => frame_no x s W hrt
     have hri := fun W => right_any x W
     have hnm := fun W h => name_any x W h
     rw [nm_no hrt] at hnm
     rw [hrt] at hri
     go_wp2_with (fail)
     refine (hfr _).mono ?_
     rintro e w3 ⟨rfl, hb⟩
     have HB3 := Lib.hid (Below.next HB2.out hb)
     have HD3 := Lib.hid (HD2.out.next hb)
     clear hb HD2 hfr
     have c0 := HD3.out.c 0 _ rfl; have c1 := HD3.out.c 1 _ rfl; have c2 := HD3.out.c 2 _ rfl; have c3 := HD3.out.c 3 _ rfl
     go_wp2_with (fail)
     refine (hof _).mono ?_
     rintro e w4 ⟨rfl, hb⟩
     have HB4 := Lib.hid (Below.next HB3.out hb)
     have HD4 := Lib.hid (HD3.out.next hb)
     clear hb c0 c1 c2 c3 HD3
     go_wp2_with (fail)
     refine (hri _).mono ?_
     rintro e w5 ⟨rfl, hb⟩
     have HB5 := Lib.hid (Below.next HB4.out hb)
     have HD5 := Lib.hid (HD4.out.next hb)
     clear hb HD4
     have c0 := HD5.out.c 0 _ rfl; have c1 := HD5.out.c 1 _ rfl; have c2 := HD5.out.c 2 _ rfl; have c3 := HD5.out.c 3 _ rfl
     go_wp2_with (fail)
     refine (hof _).mono ?_
     rintro e w6 ⟨rfl, hb⟩
     have HB6 := Lib.hid (Below.next HB5.out hb)
     clear hb c0 c1 c2 c3 HD5
     go_wp2_with (fail)
     refine (hnm _ (HT.out.next HB6.out)).mono ?_
     rintro e w7 ⟨rfl, hb⟩
     have HB7 := Lib.hid (Below.next HB6.out hb)
     clear hb
     have hq : ((tx []).toList.isEmpty) = true := by rw [ByteArray.toList_eq, tx_list]; rfl
     generalize tx [] = E at *
     go_wp2_with (fail)
     go_ret
     exact ⟨rfl, HB7.out⟩
   · have hfr := fun W => frame_yes x s W hrt (by omega)
     have hop := fun W => fopen_yes x s.data.toList W hrt (by simp; omega)
     rw [tx_of] at hop
     have hnm := fun W h => name_any x W h
     have hnd := fun W h1 h2 => named_any (tx (nm x)) (by rw [tx_size]; have := nm_len x; omega) W h1 h2
     rw [tx_list] at hnd
     have HRT := Lib.hid hrt
     have heq : ∀ w, (binOp .eql 28 (.agg #[.int .i64 x.t, .int .i64 x.a, .int .i64 x.p, .int .i64 x.f]) (.agg #[.int .i64 x.t, .int .i64 x.a, .int .i64 x.p, .int .i64 x.f])).run Tryd.prog w = .ok (.bool true) w := fun w => by rw [eql_id, decide_eq_true rfl]
     generalize tx (fr x s.data.toList) = F at *
     generalize tx (nm x) = NX at *
     go_wp2_with (fail)
     refine (hfr _).mono ?_
     rintro e w3 ⟨rfl, hb⟩
     have HB3 := Lib.hid (Below.next HB2.out hb)
     have HD3 := Lib.hid (HD2.out.next hb)
     clear hb HD2 hfr
     go_wp2_with (fail)
     refine (hop _).mono ?_
     rintro e w4 ⟨rfl, hb⟩
     have HB4 := Lib.hid (Below.next HB3.out hb)
     have HD4 := Lib.hid (HD3.out.next hb)
     clear hb HD3 hop
     have HX5 := Lib.hid (Blk.made w4 28 [.int .i64 x.t, .int .i64 x.a, .int .i64 x.p, .int .i64 x.f] rfl)
     have HB5 := Lib.hid (HB4.out.alloc HB4.out.size (.cells #[.int .i64 x.t, .int .i64 x.a, .int .i64 x.p, .int .i64 x.f] 28))
     have HD5 := Lib.hid (HD4.out.old (.cells #[.int .i64 x.t, .int .i64 x.a, .int .i64 x.p, .int .i64 x.f] 28))
     have hlt4 := HD4.out.lt
     have hn4 : ¬ w.heap.size = w4.heap.size := by omega
     have hn4' : ¬ w4.heap.size = w.heap.size := by omega
     have c0 := HD4.out.c 0 _ rfl; have c1 := HD4.out.c 1 _ rfl; have c2 := HD4.out.c 2 _ rfl; have c3 := HD4.out.c 3 _ rfl
     clear HD4
     go_wp2_with (fail)
     refine (hof _).mono ?_
     rintro e w6 ⟨rfl, hb⟩
     have HB6 := Lib.hid (Below.next HB5.out hb)
     have HD6 := Lib.hid (HD5.out.next hb)
     have HX6 := Lib.hid (HX5.out.next hb)
     clear hb HD5 HX5 c0 c1 c2 c3
     go_wp2_with (fail)
     refine (hnm _ (HT.out.next HB6.out)).mono ?_
     rintro e w7 ⟨rfl, hb⟩
     have HB7 := Lib.hid (Below.next HB6.out hb)
     have HD7 := Lib.hid (HD6.out.next hb)
     have HX7 := Lib.hid (HX6.out.next hb)
     clear hb HD6 HX6
     go_wp2_with (fail)
     refine (hnd _ (HT.out.next HB7.out) (HE.out.next HB7.out)).mono ?_
     rintro e w8 ⟨hb, hq⟩
     have HB8 := Lib.hid (Below.next HB7.out hb)
     have HD8 := Lib.hid (HD7.out.next hb)
     have HX8 := Lib.hid (HX7.out.next hb)
     clear hb HD7 HX7
     have hq' : e = .returned (.tuple #[.agg #[.int .i64 x.t, .int .i64 x.a, .int .i64 x.p, .int .i64 x.f], .bool true]) := by
      rcases hq with ⟨y, hy, hn, rfl⟩ | ⟨hno, _⟩
      · rw [nm_inj hy HRT.out hn]
      · exact absurd rfl (hno x HRT.out)
     subst hq'
     clear hq
     have HD9 := Lib.hid (HD8.out.old (.cells #[.int .i64 x.t, .int .i64 x.a, .int .i64 x.p, .int .i64 x.f] 28))
     have HX9 := Lib.hid (HX8.out.old (.cells #[.int .i64 x.t, .int .i64 x.a, .int .i64 x.p, .int .i64 x.f] 28))
     have HY9 := Lib.hid (Blk.made w8 28 [.int .i64 x.t, .int .i64 x.a, .int .i64 x.p, .int .i64 x.f] rfl)
     have HB9 := Lib.hid (HB8.out.alloc HB8.out.size (.cells #[.int .i64 x.t, .int .i64 x.a, .int .i64 x.p, .int .i64 x.f] 28))
     clear HD8 HX8
     go_upto_region 8 with (fail)
     generalize hw9 : (w8.alloc _) = w9 at *
     obtain ⟨X, hX⟩ : ∃ X, w4.heap.size = X := ⟨_, rfl⟩
     obtain ⟨Y, hY⟩ : ∃ Y, w8.heap.size = Y := ⟨_, rfl⟩
     rw [hX] at HX9 ⊢
     rw [hY] at HY9 ⊢
     clear hw9 hX hY hlt4 hn4 hn4'
     have a0 := fun q : Over w9 => (HD9.out.over q).c 0 _ rfl; have a1 := fun q : Over w9 => (HD9.out.over q).c 1 _ rfl; have a2 := fun q : Over w9 => (HD9.out.over q).c 2 _ rfl; have a3 := fun q : Over w9 => (HD9.out.over q).c 3 _ rfl
     have b0 := fun q : Over w9 => (HX9.out.over q).c 0 _ rfl; have b1 := fun q : Over w9 => (HX9.out.over q).c 1 _ rfl; have b2 := fun q : Over w9 => (HX9.out.over q).c 2 _ rfl; have b3 := fun q : Over w9 => (HX9.out.over q).c 3 _ rfl
     have d0 := fun q : Over w9 => (HY9.out.over q).c 0 _ rfl; have d1 := fun q : Over w9 => (HY9.out.over q).c 1 _ rfl; have d2 := fun q : Over w9 => (HY9.out.over q).c 2 _ rfl; have d3 := fun q : Over w9 => (HY9.out.over q).c 3 _ rfl
     have HO := Lib.hid (fun q : Over w9 => over_gives q (lof_any x q.val))
     clear hof hnm hnd HD9 HX9 HY9
     refine wp_over (by kernel_rfl) (by kernel_rfl) ?_
     repeat (go_big_quiet_step (first | fail | with_reducible exact HO.out _))
     refine wpQuiet_nil ?_
     rintro w10 ⟨⟨w10, hb⟩, rfl⟩
     have HB10 := Lib.hid (Below.next HB9.out hb)
     clear hb a0 a1 a2 a3 b0 b1 b2 b3 d0 d1 d2 d3 HO
     go_wp2_with (fail)
     go_ret
     exact ⟨rfl, HB10.out⟩
end Go.Proofs.YtchmepalhldpcaaDoor.Fr

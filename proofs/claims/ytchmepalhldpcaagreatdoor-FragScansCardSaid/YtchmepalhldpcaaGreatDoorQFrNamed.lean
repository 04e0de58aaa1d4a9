/-
  A text of this claim: FrNamed.
-/
import Derived.Test.YtchmepalhldpcaaGreatDoorQ1
import Derived.Laws.ResultCell
namespace Go.Proofs.YtchmepalhldpcaaGreatDoor.Fr
open Go.ChangeShapes Go.WideShapes Go.ChangeAt Go.RowKit Ov
theorem ext_mid (s : ByteArray) (a b : Nat) : s.extract a b = tx ((s.data.toList.take b).drop a) := tx_ext (by
 rw [Lib.extract_data, List.drop_take])
theorem pre_prefix (x : Fd) (k : Nat) : ∀ m, k ≤ m → ∃ r, pre x m = pre x k ++ r
 | 0, h => ⟨[], by rw [show k = 0 by omega]; rfl⟩
 | m + 1, h => by
   by_cases e : k = m + 1
   · subst e; exact ⟨[], by simp⟩
   · obtain ⟨r, hr⟩ := pre_prefix x k m (by omega)
     exact ⟨r ++ lt4.getD m 0 :: Lib.itoa ((ns x).getD m 0), by rw [pre, hr, List.append_assoc]⟩
theorem pre_take {x : Fd} (h : rt x = true) {k : Nat} (hk : k ≤ 4) : (nm x).take (pre x k).length = pre x k := by
 obtain ⟨r, hr⟩ := pre_prefix x k 4 hk
 rw [nm_rt h, hr, List.take_left' rfl]
theorem pre_last {x : Fd} (h : rt x = true) {j : Nat} (hj : j < 4) : Lib.lastIndexByte (tx ((nm x).take (pre x (j + 1)).length)) ((lt4.getD j 0).toNat : Int) = ((pre x j).length : Int) := by
 rw [pre_take h (by omega)]
 exact last_of (itoa_no (ns_at h j hj).1 (lt4_dg j hj))
theorem pre_num {x : Fd} (h : rt x = true) {j : Nat} (hj : j < 4) : Lib.atoiAll (((nm x).take (pre x (j + 1)).length).drop ((pre x j).length + 1)) = .ok ((ns x).getD j 0) := by
 rw [pre_take h (by omega), show pre x (j + 1) = (pre x j ++ [lt4.getD j 0]) ++ Lib.itoa ((ns x).getD j 0) by simp [pre], List.drop_left' (by simp)]
 exact atoi_itoa (ns_at h j hj)
def upd (y : Fd) (j : Nat) (n : Int) : Fd := match j with | 0 => { y with t := n } | 1 => { y with a := n } | 2 => { y with p := n } | _ => { y with f := n }
def cl (y : Fd) : List Value := [.int .i64 y.t, .int .i64 y.a, .int .i64 y.p, .int .i64 y.f]
theorem cl_at (y : Fd) {j : Nat} (hj : j < 4) : (cl y)[j]? = some (.int .i64 ((ns y).getD j 0)) := by
 match j, hj with
 | 0, _ => rfl
 | 1, _ => rfl
 | 2, _ => rfl
 | 3, _ => rfl
theorem cl_set (y : Fd) {j : Nat} (hj : j < 4) (n : Int) : (cl y).set j (.int .i64 n) = cl (upd y j n) := by
 match j, hj with
 | 0, _ => rfl
 | 1, _ => rfl
 | 2, _ => rfl
 | 3, _ => rfl
theorem upd_at (y : Fd) {j : Nat} (hj : j < 4) (n : Int) {i : Nat} (hi : i < 4) : (ns (upd y j n)).getD i 0 = if i = j then n else (ns y).getD i 0 := by
 match j, hj, i, hi with
 | 0, _, 0, _ => rfl
 | 0, _, 1, _ => rfl
 | 0, _, 2, _ => rfl
 | 0, _, 3, _ => rfl
 | 1, _, 0, _ => rfl
 | 1, _, 1, _ => rfl
 | 1, _, 2, _ => rfl
 | 1, _, 3, _ => rfl
 | 2, _, 0, _ => rfl
 | 2, _, 1, _ => rfl
 | 2, _, 2, _ => rfl
 | 2, _, 3, _ => rfl
 | 3, _, 0, _ => rfl
 | 3, _, 1, _ => rfl
 | 3, _, 2, _ => rfl
 | 3, _, 3, _ => rfl
theorem ns_ext {x y : Fd} (h : ∀ j, j < 4 → (ns y).getD j 0 = (ns x).getD j 0) : y = x :=
 Fd.eq_iff.2 ⟨h 0 (by decide), h 1 (by decide), h 2 (by decide), h 3 (by decide)⟩
structure NI (l : List UInt8) (k E : Nat) (y : Fd) : Prop where
 ne : k < 4 → l ≠ []
 at' : ∀ x, rt x = true → nm x = l → E = (pre x k).length ∧ ∀ j, k ≤ j → j < 4 → (ns y).getD j 0 = (ns x).getD j 0
theorem NI.start (l : List UInt8) (y : Fd) : NI l 4 l.length y := ⟨fun h => absurd h (by decide), fun x hr he => ⟨by rw [← he, nm_rt hr], fun j h1 h2 => by omega⟩⟩
section
variable {l : List UInt8} {j E F : Nat} {y : Fd}
theorem NI.none (h : NI l (j + 1) E y) (hj : j < 4) {v : Int} (hv : Lib.lastIndexByte (tx (l.take E)) ((lt4.getD j 0).toNat : Int) = v) (h0 : v < 0) : ∀ x, rt x = true → nm x ≠ l := fun x hr he => by
 have := pre_last hr hj
 rw [he, ← (h.at' x hr he).1, hv] at this
 omega
theorem NI.bad (h : NI l (j + 1) E y) (hj : j < 4) (hv : Lib.lastIndexByte (tx (l.take E)) ((lt4.getD j 0).toNat : Int) = (F : Int)) (hn : ∀ n, Lib.atoiAll ((l.take E).drop (F + 1)) ≠ .ok n) : ∀ x, rt x = true → nm x ≠ l := fun x hr he => by
 have h1 := pre_last hr hj
 have h2 := pre_num hr hj
 rw [he, ← (h.at' x hr he).1, hv] at h1
 rw [he, ← (h.at' x hr he).1, ← Int.ofNat.inj h1] at h2
 exact hn _ h2
theorem NI.step (h : NI l (j + 1) E y) (hj : j < 4) (hv : Lib.lastIndexByte (tx (l.take E)) ((lt4.getD j 0).toNat : Int) = (F : Int)) {n : Int} (hn : Lib.atoiAll ((l.take E).drop (F + 1)) = .ok n) : NI l j F (upd y j n) := by
 refine ⟨fun _ e => ?_, fun x hr he => ?_⟩
 · subst e
   rw [List.take_nil] at hv
   have : Lib.lastIndexByte (tx []) ((lt4.getD j 0).toNat : Int) = -1 := rfl
   rw [this] at hv; omega
 · have h1 := pre_last hr hj
   have h2 := pre_num hr hj
   rw [he, ← (h.at' x hr he).1, hv] at h1
   rw [he, ← (h.at' x hr he).1, ← Int.ofNat.inj h1, hn] at h2
   refine ⟨Int.ofNat.inj h1, fun i h3 h4 => ?_⟩
   rw [upd_at y hj n h4]
   by_cases e : i = j
   · subst e; rw [if_pos rfl]; injection h2
   · rw [if_neg e]; exact (h.at' x hr he).2 i (by omega) h4
theorem NI.other (h : NI l 0 E y) (hne : nm y ≠ l) : ∀ x, rt x = true → nm x ≠ l := fun x hr he => by
 have := ns_ext fun j hj => (h.at' x hr he).2 j (Nat.zero_le _) hj
 rw [this] at hne; exact hne he
theorem NI.yes (h : NI l 0 E y) (he : nm y = l) : rt y = true := nm_ne.1 (by rw [he]; exact h.ne (by decide))
end
def NamedQ (l : List UInt8) (w : World) (e : Ending) (w' : World) : Prop :=
 Below w.heap.size w w' ∧ ((∃ x : Fd, rt x = true ∧ nm x = l ∧ e = .returned (.tuple #[.agg #[.int .i64 x.t, .int .i64 x.a, .int .i64 x.p, .int .i64 x.f], .bool true])) ∨
  ((∀ x, rt x = true → nm x ≠ l) ∧ e = .returned (.tuple #[.agg #[.int .i64 0, .int .i64 0, .int .i64 0, .int .i64 0], .bool false])))
theorem last_cases (s : ByteArray) (c : Int) : Lib.lastIndexByte s c = -1 ∨ ∃ F : Nat, F < s.size ∧ Lib.lastIndexByte s c = (F : Int) := by
 rcases Lib.lastIndexByte_spec s c with ⟨h, _⟩ | ⟨i, hi, h, _⟩
 · exact .inl h
 · exact .inr ⟨i, hi, h⟩
theorem four {w w3 : World} {R : Nat} {a b c d p q r s : Value} (h : Blk w3 R [a, b, c, d]) (hb : Below w.heap.size w w3) (hR : w.heap.size ≤ R) :
 Blk ((((w3.setCell ⟨R, 0, none⟩ p).setCell ⟨R, 1, none⟩ q).setCell ⟨R, 2, none⟩ r).setCell ⟨R, 3, none⟩ s) R [p, q, r, s] ∧ Below w.heap.size w ((((w3.setCell ⟨R, 0, none⟩ p).setCell ⟨R, 1, none⟩ q).setCell ⟨R, 2, none⟩ r).setCell ⟨R, 3, none⟩ s) :=
 ⟨((((h.set 0 p).set 1 q).set 2 r).set 3 s).cast rfl, (((hb.setCell hR _).setCell hR _).setCell hR _).setCell hR _⟩
set_option maxRecDepth 100000 in
set_option maxHeartbeats 4000000 in
theorem named_any (s : ByteArray) (hs : s.size ≤ 1000000) (w : World) (hT : Tab w) (hE : Ers w) : Calls Tryz.prog 25 #[.string s] w (NamedQ s.data.toList w) := by
 have HT := Lib.hid hT; have HEr := Lib.hid hE
 have HR0 := Lib.hid ((Blk.made w 26 [.int .i64 0, .int .i64 0, .int .i64 0, .int .i64 0] rfl).old (.cells #[.int .i64 0, .int .i64 0, .int .i64 0, .int .i64 0] 51))
 have HA0 := Lib.hid (Blk.made (w.alloc (.cells #[.int .i64 0, .int .i64 0, .int .i64 0, .int .i64 0] 26)) 51 [.int .i64 0, .int .i64 0, .int .i64 0, .int .i64 0] (n := w.heap.size + 1) (by simp))
 have HB0 := Lib.hid (box2 w (.cells #[.int .i64 0, .int .i64 0, .int .i64 0, .int .i64 0] 26) (.cells #[.int .i64 0, .int .i64 0, .int .i64 0, .int .i64 0] 51))
 have HN0 : Hid (NI s.data.toList 4 s.size z0) := by
  have := NI.start s.data.toList z0
  rw [show s.data.toList.length = s.size by simp] at this
  exact this
 clear hT hE
 go_enter Tryz.func25, Tryz.ntmps25
 go_wp2_with (fail)
 generalize hw0 : ((w.alloc _).alloc _) = w0 at *
 clear hw0
 go_loopw [5, 6] (fun en i wr => ∃ (k E : Nat) (q : Int) (y : Fd), k ≤ 4 ∧ E ≤ s.size ∧ en = .int .i64 (E : Int) ∧ i = .int .i64 q ∧ q + 1 = (k : Int) ∧ Hid (Blk wr w.heap.size [.int .i64 0, .int .i64 0, .int .i64 0, .int .i64 0]) ∧ Hid (Blk wr (w.heap.size + 1) (cl y)) ∧ Hid (Below w.heap.size w wr) ∧ Hid (NI s.data.toList k E y)) (fun _ i _ => (intOf i + 1).toNat)
 case atStart => exact ⟨4, s.size, 3, z0, by decide, Nat.le_refl _, rfl, rfl, rfl, HR0, HA0, HB0, HN0⟩
 case round =>
  obtain ⟨k, E, q, y, hk, hle, rfl, rfl, hq, HR, HA, HB, HN⟩ := hrel
  have hRA : ¬ w.heap.size = w.heap.size + 1 := by omega
  have hAR : ¬ w.heap.size + 1 = w.heap.size := by omega
  by_cases k0 : k = 0
  · subst k0
    obtain rfl : q = -1 := by omega
    have a0 := HA.out.c 0 _ rfl; have a1 := HA.out.c 1 _ rfl; have a2 := HA.out.c 2 _ rfl; have a3 := HA.out.c 3 _ rfl
    go_wp2_with (fail)
    refine (id_any y _).mono ?_
    rintro e w1 ⟨rfl, hb⟩
    have HR1 := Lib.hid (HR.out.next hb)
    have HA1 := Lib.hid (HA.out.next hb)
    have HB1 := Lib.hid (Below.next HB.out hb)
    clear hb a0 a1 a2 a3
    go_wp2_with (fail)
    refine (name_any y _ (HT.out.next HB1.out)).mono ?_
    rintro e w2 ⟨rfl, hb⟩
    have HR2 := Lib.hid (HR1.out.next hb)
    have HA2 := Lib.hid (HA1.out.next hb)
    have HB2 := Lib.hid (Below.next HB1.out hb)
    clear hb HR HA HB HR1 HA1 HB1
    by_cases he : nm y = s.data.toList
    · have hq : ((tx (nm y)).toList == s.toList) = true := by rw [ByteArray.toList_eq, ByteArray.toList_eq, tx_list, he]; simp
      have a0 := HA2.out.c 0 _ rfl; have a1 := HA2.out.c 1 _ rfl; have a2 := HA2.out.c 2 _ rfl; have a3 := HA2.out.c 3 _ rfl
      have HE := Lib.hid he
      clear he
      generalize tx (nm y) = Y at *
      go_wp2_with (fail)
      refine (id_any y _).mono ?_
      rintro e w3 ⟨rfl, hb⟩
      have HR3 := Lib.hid (HR2.out.next hb)
      have HB3 := Lib.hid (Below.next HB2.out hb)
      clear hb a0 a1 a2 a3
      have c0 := HR3.out.c 0 _ rfl; have c1 := HR3.out.c 1 _ rfl; have c2 := HR3.out.c 2 _ rfl; have c3 := HR3.out.c 3 _ rfl
      have f0 := HR3.out.f 0 _ rfl; have f1 := HR3.out.f 1 _ rfl; have f2 := HR3.out.f 2 _ rfl; have f3 := HR3.out.f 3 _ rfl
      go_wp2_with (fail)
      obtain ⟨hF, hG⟩ := four (p := .int .i64 y.t) (q := .int .i64 y.a) (r := .int .i64 y.p) (s := .int .i64 y.f) HR3.out HB3.out (Nat.le_refl _)
      clear c0 c1 c2 c3 f0 f1 f2 f3
      generalize (((World.setCell w3 _ _).setCell _ _).setCell _ _).setCell _ _ = W at *
      have e0 := hF.c 0 _ rfl; have e1 := hF.c 1 _ rfl; have e2 := hF.c 2 _ rfl; have e3 := hF.c 3 _ rfl
      (try simp only [Exit.inBlock, Exit.then]); refine bodyPost_ret (v := .tuple #[.agg #[.int .i64 y.t, .int .i64 y.a, .int .i64 y.p, .int .i64 y.f], .bool true]) (by simp [results, Tryz.results25, go_sem, e0, e1, e2, e3]) rfl ⟨hG, .inl ⟨y, HN.out.yes HE.out, HE.out, rfl⟩⟩
    · have hq : ((tx (nm y)).toList == s.toList) = false := by rw [ByteArray.toList_eq, ByteArray.toList_eq, tx_list, beq_eq_false_iff_ne]; simpa using he
      have HE := Lib.hid (HN.out.other he)
      clear he
      generalize tx (nm y) = Y at *
      have c0 := HR2.out.c 0 _ rfl; have c1 := HR2.out.c 1 _ rfl; have c2 := HR2.out.c 2 _ rfl; have c3 := HR2.out.c 3 _ rfl
      have f0 := HR2.out.f 0 _ rfl; have f1 := HR2.out.f 1 _ rfl; have f2 := HR2.out.f 2 _ rfl; have f3 := HR2.out.f 3 _ rfl
      go_wp2_with (fail)
      obtain ⟨hF, hG⟩ := four (p := .int .i64 0) (q := .int .i64 0) (r := .int .i64 0) (s := .int .i64 0) HR2.out HB2.out (Nat.le_refl _)
      clear c0 c1 c2 c3 f0 f1 f2 f3
      generalize (((World.setCell w2 _ _).setCell _ _).setCell _ _).setCell _ _ = W at *
      have e0 := hF.c 0 _ rfl; have e1 := hF.c 1 _ rfl; have e2 := hF.c 2 _ rfl; have e3 := hF.c 3 _ rfl
      (try simp only [Exit.inBlock, Exit.then]); refine bodyPost_ret (v := .tuple #[.agg #[.int .i64 0, .int .i64 0, .int .i64 0, .int .i64 0], .bool false]) (by simp [results, Tryz.results25, go_sem, e0, e1, e2, e3]) rfl ⟨hG, .inr ⟨HE.out, rfl⟩⟩
  · obtain ⟨j, rfl⟩ : ∃ j, k = j + 1 := ⟨k - 1, by omega⟩
    obtain rfl : q = (j : Int) := by omega
    have hj : j < 4 := by omega
    have hj' : (j : Int) < 4 := by omega
    have hil := fun W => index_lt4 j hj W
    have hls := fun W => last_any (s.extract 0 E) (lt4.getD j 0) (by rw [ext_take, tx_size]; simp; omega) W
    have hvc := last_cases (s.extract 0 E) ((lt4.getD j 0).toNat : Int)
    have hez : (s.extract 0 E).size ≤ E := by rw [ext_take, tx_size]; simp; omega
    have HV : Hid (Lib.lastIndexByte (tx (s.data.toList.take E)) ((lt4.getD j 0).toNat : Int) = Lib.lastIndexByte (s.extract 0 E) ((lt4.getD j 0).toNat : Int)) := by show _ = _; rw [ext_take]
    have HC := Lib.hid (cl_at y hj)
    have H1 := Lib.hid (fun (v : Int) hv h0 => HN.out.none (v := v) hj hv h0)
    have H2 := Lib.hid (fun (F : Nat) hv hn => HN.out.bad (F := F) hj hv hn)
    have H3 := Lib.hid (fun (F : Nat) hv (n : Int) hn => HN.out.step (F := F) (n := n) hj hv hn)
    generalize lt4.getD j 0 = c at hil hls hvc HV H1 H2 H3
    generalize Lib.lastIndexByte (s.extract 0 E) (c.toNat : Int) = v at hls hvc HV
    rcases hvc with rfl | ⟨F, hF, rfl⟩
    · have HNO := Lib.hid (H1.out _ HV.out (by omega))
      clear H1 H2 H3
      go_wp2_with (fail)
      go_quiet (exact Calls.quiet_of_same (hls _))
      have HR5 := Lib.hid (HR.out.next (below_drewN (Below.refl _ _) nq))
      have HA5 := Lib.hid (HA.out.next (below_drewN (Below.refl _ _) nq))
      have HB5 := Lib.hid (below_drewN HB.out nq)
      clear HR HA HB
      generalize World.drewN wr nq = w5 at *
      have c0 := HR5.out.c 0 _ rfl; have c1 := HR5.out.c 1 _ rfl; have c2 := HR5.out.c 2 _ rfl; have c3 := HR5.out.c 3 _ rfl
      have f0 := HR5.out.f 0 _ rfl; have f1 := HR5.out.f 1 _ rfl; have f2 := HR5.out.f 2 _ rfl; have f3 := HR5.out.f 3 _ rfl
      go_wp2_with (fail)
      obtain ⟨hF, hG⟩ := four (p := .int .i64 0) (q := .int .i64 0) (r := .int .i64 0) (s := .int .i64 0) HR5.out HB5.out (Nat.le_refl _)
      clear c0 c1 c2 c3 f0 f1 f2 f3
      generalize (((World.setCell w5 _ _).setCell _ _).setCell _ _).setCell _ _ = W at *
      have e0 := hF.c 0 _ rfl; have e1 := hF.c 1 _ rfl; have e2 := hF.c 2 _ rfl; have e3 := hF.c 3 _ rfl
      (try simp only [Exit.inBlock, Exit.then]); refine bodyPost_ret (v := .tuple #[.agg #[.int .i64 0, .int .i64 0, .int .i64 0, .int .i64 0], .bool false]) (by simp [results, Tryz.results25, go_sem, e0, e1, e2, e3]) rfl ⟨hG, .inr ⟨HNO.out, rfl⟩⟩
    · have hFE : F < E := by omega
      have hF0 : ¬ (F : Int) < 0 := by omega
      have tF : decide ((F : Int) < 0) = false := decide_eq_false hF0
      have hsl : ∀ w, (Instr.slice 9 (.string s) (some (.int .i64 ((F : Int) + 1))) (some (.int .i64 (E : Int))) none).run Tryz.prog w = .ok (.string (tx ((s.data.toList.take E).drop (F + 1)))) w := fun w => by
       rw [← ext_mid]
       exact run_slice_string (P := Tryz.prog) w 9 s .i64 .i64 ((F : Int) + 1) (E : Int) Tryz.underlying9 (by omega) (by omega) (by omega)
      have hsz : (tx ((s.data.toList.take E).drop (F + 1))).size ≤ 281474976710656 := by rw [tx_size]; simp; omega
      by_cases hat : ∃ n, Lib.atoiAll ((s.data.toList.take E).drop (F + 1)) = .ok n
      · obtain ⟨n, hn⟩ := hat
        have HS := Lib.hid (H3.out F HV.out n hn)
        have hA := fun W => atoi_yes (tx ((s.data.toList.take E).drop (F + 1))) hsz (v := n) (by rw [tx_list]; exact hn) W
        have HD := Lib.hid (cl_set y hj n)
        clear hn hsz H1 H2 H3
        generalize tx ((s.data.toList.take E).drop (F + 1)) = S at *
        go_wp2_with (fail)
        go_quiet (exact Calls.quiet_of_same (hls _))
        have HR5 := Lib.hid (HR.out.next (below_drewN (Below.refl _ _) nq))
        have HA5 := Lib.hid (HA.out.next (below_drewN (Below.refl _ _) nq))
        have HB5 := Lib.hid (below_drewN HB.out nq)
        clear HR HA HB
        generalize World.drewN wr nq = w5 at *
        go_wp2_with (fail)
        refine (hA _).mono ?_
        rintro e w6 ⟨rfl, hb⟩
        have HR6 := Lib.hid (HR5.out.next hb)
        have HA6 := Lib.hid (HA5.out.next hb)
        have HB6 := Lib.hid (Below.next HB5.out hb)
        clear hb HR5 HA5 HB5
        have cA := HA6.out.c j _ HC.out
        have fA := HA6.out.f j _ HC.out
        go_wp2_with (fail)
        go_roundw
        · exact ⟨j, F, (j : Int) - 1, upd y j n, by omega, by omega, rfl, rfl, by omega, Lib.hid (HR6.out.put (c := w.heap.size + 1) (Nat.succ_ne_self _) _ _), Lib.hid ((HA6.out.set j _).cast HD.out), Lib.hid (HB6.out.setCell (Nat.le_succ w.heap.size) _), HS⟩
        · simp [intOf]
      · have HNO := Lib.hid (H2.out F HV.out (fun n hn => hat ⟨n, hn⟩))
        have hA := fun W hE => atoi_no (tx ((s.data.toList.take E).drop (F + 1))) hsz (fun n hn => hat ⟨n, by rw [tx_list] at hn; exact hn⟩) W hE
        clear hat hsz H1 H2 H3
        generalize tx ((s.data.toList.take E).drop (F + 1)) = S at *
        go_wp2_with (fail)
        go_quiet (exact Calls.quiet_of_same (hls _))
        have HR5 := Lib.hid (HR.out.next (below_drewN (Below.refl _ _) nq))
        have HA5 := Lib.hid (HA.out.next (below_drewN (Below.refl _ _) nq))
        have HB5 := Lib.hid (below_drewN HB.out nq)
        clear HR HA HB
        generalize World.drewN wr nq = w5 at *
        go_wp2_with (fail)
        refine (hA _ (HEr.out.next HB5.out)).mono ?_
        rintro e w6 ⟨n, et, ep, rfl, hb⟩
        have HR6 := Lib.hid (HR5.out.next hb)
        have HB6 := Lib.hid (Below.next HB5.out hb)
        clear hb HR5 HA5 HB5
        have c0 := HR6.out.c 0 _ rfl; have c1 := HR6.out.c 1 _ rfl; have c2 := HR6.out.c 2 _ rfl; have c3 := HR6.out.c 3 _ rfl
        have f0 := HR6.out.f 0 _ rfl; have f1 := HR6.out.f 1 _ rfl; have f2 := HR6.out.f 2 _ rfl; have f3 := HR6.out.f 3 _ rfl
        go_wp2_with (fail)
        obtain ⟨hF, hG⟩ := four (p := .int .i64 0) (q := .int .i64 0) (r := .int .i64 0) (s := .int .i64 0) HR6.out HB6.out (Nat.le_refl _)
        clear c0 c1 c2 c3 f0 f1 f2 f3
        generalize (((World.setCell w6 _ _).setCell _ _).setCell _ _).setCell _ _ = W at *
        have e0 := hF.c 0 _ rfl; have e1 := hF.c 1 _ rfl; have e2 := hF.c 2 _ rfl; have e3 := hF.c 3 _ rfl
        (try simp only [Exit.inBlock, Exit.then]); refine bodyPost_ret (v := .tuple #[.agg #[.int .i64 0, .int .i64 0, .int .i64 0, .int .i64 0], .bool false]) (by simp [results, Tryz.results25, go_sem, e0, e1, e2, e3]) rfl ⟨hG, .inr ⟨HNO.out, rfl⟩⟩
end Go.Proofs.YtchmepalhldpcaaGreatDoor.Fr

/-
  A pair read from a tape; pairs.Read.
-/
import Derived.Test.YtgakcpcpfkoaiaaPrRight
import Derived.Test.YtgakcpcpfkoaiaaPrJoin
import Derived.Test.YtgakcpcpfkoaiaaVaRd3
import Derived.Test.YtgakcpcpfkoaiaaTpEnd
namespace Go.Proofs.Ytgakcpcpfkoaiaa.Pr
open Go.ChangeShapes Go.WideShapes Go.ChangeAt Go.RowKit Go.Sort Go.Proofs Go.Proofs.Ytgakcpcpfkoaiaa.Ov Go.Proofs.Ytgakcpcpfkoaiaa.Tp Go.Proofs.Ytgakcpcpfkoaiaa.Va Go.Proofs.Ytgakcpcpfkoaiaa.St

theorem six {w : World} {b : Nat} {x0 x1 x2 x3 x4 x5 : Value} (h : Blk w b [x0, x1, x2, x3, x4, x5]) : w.cell? ⟨b, 0, none⟩ = some x0 ∧ w.cell? ⟨b, 1, none⟩ = some x1 ∧ w.cell? ⟨b, 2, none⟩ = some x2 ∧ w.cell? ⟨b, 3, none⟩ = some x3 ∧ w.cell? ⟨b, 4, none⟩ = some x4 ∧ w.cell? ⟨b, 5, none⟩ = some x5 :=
  ⟨h.c 0 _ rfl, h.c 1 _ rfl, h.c 2 _ rfl, h.c 3 _ rfl, h.c 4 _ rfl, h.c 5 _ rfl⟩
theorem six_f {w : World} {b : Nat} {x0 x1 x2 x3 x4 x5 : Value} (h : Blk w b [x0, x1, x2, x3, x4, x5]) : w.frozen? ⟨b, 0, none⟩ = false ∧ w.frozen? ⟨b, 1, none⟩ = false ∧ w.frozen? ⟨b, 2, none⟩ = false ∧ w.frozen? ⟨b, 3, none⟩ = false ∧ w.frozen? ⟨b, 4, none⟩ = false ∧ w.frozen? ⟨b, 5, none⟩ = false :=
  ⟨h.f 0 _ rfl, h.f 1 _ rfl, h.f 2 _ rfl, h.f 3 _ rfl, h.f 4 _ rfl, h.f 5 _ rfl⟩
/-- A walk's end: six cells are laid into the box r, and are the answer; the tape in block b stands. -/
theorem fin6 {P : World → Prop} {W w : World} {r b : Nat} {l : List UInt8} {x0 x1 x2 x3 x4 x5 : Value} (h : Blk w r [x0, x1, x2, x3, x4, x5]) (ht : Tur b W w) (hi : IsT w b l) (hlo : W.heap.size ≤ r) (hne : b ≠ r) (a0 a1 a2 a3 a4 a5 : Value)
    (k : ∀ w', Blk w' r [a0, a1, a2, a3, a4, a5] → Tur b W w' → IsT w' b l → P w') : P ((((((w.setCell ⟨r, 0, none⟩ a0).setCell ⟨r, 1, none⟩ a1).setCell ⟨r, 2, none⟩ a2).setCell ⟨r, 3, none⟩ a3).setCell ⟨r, 4, none⟩ a4).setCell ⟨r, 5, none⟩ a5) :=
  k _ ((((((h.set 0 a0).set 1 a1).set 2 a2).set 3 a3).set 4 a4).set 5 a5) ((((((ht.new hlo 0 a0).new hlo 1 a1).new hlo 2 a2).new hlo 3 a3).new hlo 4 a4).new hlo 5 a5)
    (One.tur hi ((((((Tur.refl (b := r) (w := w)).setCell 0 a0).setCell 1 a1).setCell 2 a2).setCell 3 a3 |>.setCell 4 a4).setCell 5 a5) hne)
set_option maxRecDepth 100000 in
set_option maxHeartbeats 2000000 in
theorem readPair_any (b : Nat) (l : List UInt8) (w : World) (h : IsT w b l) (hl : l.length ≤ 281474976710656) :
    Calls Try.prog 28 #[.pointer (some ⟨b, 0, none⟩)] w (LeftT b (.tuple #[.agg (pcl (rdp l).1).toArray, .int .i64 ((rdp l).2.1 : Int)]) (rdp l).2.2 w) := by
  have hlt := h.lt
  have HT := Lib.hid (One.old h (box1 w (.cells #[.string ⟨#[]⟩, .int .i64 0, .int .i64 0, .string ⟨#[]⟩, .int .i64 0, .int .i64 0] 44)))
  have HP := Lib.hid (box6 w 44 (.string ⟨#[]⟩) (.int .i64 0) (.int .i64 0) (.string ⟨#[]⟩) (.int .i64 0) (.int .i64 0))
  have HU : Hid (Tur b w (w.alloc (.cells #[.string ⟨#[]⟩, .int .i64 0, .int .i64 0, .string ⟨#[]⟩, .int .i64 0, .int .i64 0] 44))) := by
    have hb := box1 w (.cells #[.string ⟨#[]⟩, .int .i64 0, .int .i64 0, .string ⟨#[]⟩, .int .i64 0, .int .i64 0] 44)
    exact ⟨hb.os, hb.tape, hb.output, hb.size, fun k hk _ => hb.block k hk⟩
  have hne : b ≠ w.heap.size := by omega
  clear h
  by_cases h1 : (cc 64 l).2.2 ≠ 0
  · have er : rdp l = (pz, (cc 64 l).2.2, l) := by unfold rdp; rw [if_pos h1]
    rw [er]
    clear er
    rcases cc_cases 64 l with ⟨n, t, h2, _⟩ | ⟨k, h2, h3, _⟩
    · rw [h2] at h1; exact absurd rfl h1
    · rw [h2]
      clear h1
      dsimp only
      go_enter Try.func28, Try.ntmps28
      go_wp2_with (fail)
      generalize w.alloc (.cells #[.string ⟨#[]⟩, .int .i64 0, .int .i64 0, .string ⟨#[]⟩, .int .i64 0, .int .i64 0] 44) = v0 at *
      have hte := text_no b l 64 v0 HT.out hl h2 h3
      refine hte.mono ?_
      rintro e a1 ⟨rfl, ht, htu⟩
      have HT1 := Lib.hid ht
      have HP1 := Lib.hid (HP.out.tur htu (Ne.symm hne))
      have HU1 := Lib.hid (HU.out.trans htu)
      obtain ⟨f0, f1, f2, f3, f4, f5⟩ := six_f HP1.out
      obtain ⟨c0, c1, c2, c3, c4, c5⟩ := six HP1.out
      have hk : ((k : Int) != 0) = true := by rw [bne_iff_ne]; omega
      clear ht htu hte HT HP HU h2
      go_wp2_with (fail)
      refine fin6 (P := bodyPost _ _ _ _ _) HP1.out HU1.out HT1.out (Nat.le_refl _) hne _ _ _ _ _ _ fun w4 hx hy hz => ?_
      obtain ⟨c0, c1, c2, c3, c4, c5⟩ := six hx
      exact bodyPost_ret (v := .tuple #[.agg (pcl pz).toArray, .int .i64 (k : Int)]) (by simp [results, Try.results28, go_sem, c0, c1, c2, c3, c4, c5]; rfl) rfl ⟨rfl, hz, hy⟩
  · rcases cc_cases 64 l with ⟨n, t, h2, h3, h4, h5⟩ | ⟨k, h2, h3, _⟩
    · by_cases hs : t.length < n
      · have er : rdp l = (pz, 2, l) := by unfold rdp; rw [if_neg h1, h2]; dsimp only; rw [if_pos hs]
        rw [er]
        clear er h1
        dsimp only
        go_enter Try.func28, Try.ntmps28
        go_wp2_with (fail)
        generalize w.alloc (.cells #[.string ⟨#[]⟩, .int .i64 0, .int .i64 0, .string ⟨#[]⟩, .int .i64 0, .int .i64 0] 44) = v0 at *
        have hte := text_short b l 64 v0 HT.out hl h2 hs
        refine hte.mono ?_
        rintro e a1 ⟨rfl, ht, htu⟩
        have HT1 := Lib.hid ht
        have HP1 := Lib.hid (HP.out.tur htu (Ne.symm hne))
        have HU1 := Lib.hid (HU.out.trans htu)
        obtain ⟨f0, f1, f2, f3, f4, f5⟩ := six_f HP1.out
        obtain ⟨c0, c1, c2, c3, c4, c5⟩ := six HP1.out
        clear h3 h4 h5 hs
        clear ht htu hte HT HP HU h2
        go_wp2_with (fail)
        refine fin6 (P := bodyPost _ _ _ _ _) HP1.out HU1.out HT1.out (Nat.le_refl _) hne _ _ _ _ _ _ fun w4 hx hy hz => ?_
        obtain ⟨c0, c1, c2, c3, c4, c5⟩ := six hx
        exact bodyPost_ret (v := .tuple #[.agg (pcl pz).toArray, .int .i64 2]) (by simp [results, Try.results28, go_sem, c0, c1, c2, c3, c4, c5]; rfl) rfl ⟨rfl, hz, hy⟩
      · have er : rdp l = ((t.take n, (rd (t.drop n)).1), (rd (t.drop n)).2.1, (rd (t.drop n)).2.2) := by unfold rdp; rw [if_neg h1, h2]; dsimp only; rw [if_neg hs]
        rw [er]
        clear er h1
        have hdl : (t.drop n).length ≤ 281474976710656 := by rw [List.length_drop]; omega
        have hte := fun v0 h => text_ok b l 64 v0 h hl h2 (by omega)
        have HTE := Lib.hid hte
        have HRE := Lib.hid (fun w1 h => read_any b (t.drop n) w1 h hdl)
        clear hte h2 h3 h4 h5 hs hdl
        generalize t.take n = key at *
        generalize t.drop n = u at *
        generalize rd u = r at *
        obtain ⟨⟨vk, vn, vs, vx, vy⟩, k, t1⟩ := r
        unfold vv at HRE
        dsimp only at HRE ⊢
        go_enter Try.func28, Try.ntmps28
        go_wp2_with (fail)
        generalize w.alloc (.cells #[.string ⟨#[]⟩, .int .i64 0, .int .i64 0, .string ⟨#[]⟩, .int .i64 0, .int .i64 0] 44) = v0 at *
        refine (HTE.out _ HT.out).mono ?_
        rintro e a1 ⟨rfl, ht, htu⟩
        have HT1 := Lib.hid ht
        have HP1 := Lib.hid (HP.out.tur htu (Ne.symm hne))
        have HU1 := Lib.hid (HU.out.trans htu)
        clear ht htu HT HP HU HTE
        go_wp2_with (fail)
        refine (HRE.out _ HT1.out).mono ?_
        rintro e a2 ⟨rfl, ht, htu⟩
        have HT2 := Lib.hid ht
        have HP2 := Lib.hid (HP1.out.tur htu (Ne.symm hne))
        have HU2 := Lib.hid (HU1.out.trans htu)
        clear ht htu HT1 HP1 HU1 HRE
        go_upto_region 5 with fail
        have hb := box1 a2 (.cells #[.int .i64 vk, .int .i64 vn, .string (tx vs), .int .i64 vx, .int .i64 vy] 42)
        have HV := Lib.hid (box5 a2 42 (.int .i64 vk) (.int .i64 vn) (.string (tx vs)) (.int .i64 vx) (.int .i64 vy))
        have HT3 := Lib.hid (One.old HT2.out hb)
        have HP3 := Lib.hid (HP2.out.next hb)
        have HU3 := Lib.hid (HU2.out.trans (Below.tur hb))
        have hlo := HP2.out.lt
        clear hb HT2 HP2 HU2
        generalize a2.alloc (.cells #[.int .i64 vk, .int .i64 vn, .string (tx vs), .int .i64 vx, .int .i64 vy] 42) = a3 at *
        obtain ⟨f0, f1, f2, f3, f4, f5⟩ := six_f HP3.out
        obtain ⟨c0, c1, c2, c3, c4, c5⟩ := six HP3.out
        obtain ⟨d0, d1, d2, d3, d4⟩ := five HV.out
        have hlo2 : ¬ a2.heap.size = w.heap.size := by omega
        clear hlo
        generalize a2.heap.size = z at *
        go_wp2_with (fail)
        refine fin6 (P := bodyPost _ _ _ _ _) HP3.out HU3.out HT3.out (Nat.le_refl _) hne _ _ _ _ _ _ fun w4 hx hy hz => ?_
        obtain ⟨c0, c1, c2, c3, c4, c5⟩ := six hx
        exact bodyPost_ret (v := .tuple #[.agg (pcl (key, ⟨vk, vn, vs, vx, vy⟩)).toArray, .int .i64 (k : Int)]) (by simp [results, Try.results28, go_sem, c0, c1, c2, c3, c4, c5]; rfl) rfl ⟨rfl, hz, hy⟩
    · rw [h2] at h1; exact absurd (show k ≠ 0 by omega) h1
theorem own_not_tape {w : World} {base n b : Nat} {v : Value} {xs : List Value} {l : List UInt8} (h : w.ownsRow base 44 6 v n xs) (k : IsT w b l) : v.ownBlock = none ∨ v.ownBlock ≠ some b := by
  rcases h.2 with ⟨rfl, _⟩ | ⟨g, cap, cur, rfl, _, hg, _⟩
  · exact .inl rfl
  · refine .inr fun e => ?_
    obtain ⟨c, hc, _⟩ := k
    have e1 : g = b := Option.some.inj e
    subst e1
    rw [hg] at hc
    injection hc with hc
    injection hc with _ h2 _
    exact absurd h2 (by decide)
theorem own_tur {w w' : World} {base n b : Nat} {v : Value} {xs : List Value} {l : List UInt8} (h : w.ownsRow base 44 6 v n xs) (k : IsT w b l) (t : Tur b w w') : w'.ownsRow base 44 6 v n xs :=
  h.kept (row := some b) ⟨t.os, t.tape, t.output, t.size, fun i hi hne => t.block i hi (fun e => hne (by rw [e]))⟩ (own_not_tape h k)
theorem tape_grown {w w' : World} {base n b : Nat} {v : Value} {xs : List Value} {l : List UInt8} (h : w.ownsRow base 44 6 v n xs) (k : IsT w b l) (g : w.grownBy w' v.ownBlock) : IsT w' b l := by
  refine World.rowIs.of_block k (g.block b (World.rowIs.lt k) ?_)
  rcases own_not_tape h k with e | e
  · rw [e]; simp
  · exact fun h => e h.symm
/-- What Read hands out. -/
def ReadQ (w : World) (r : List Pr × Nat) (e : Ending) (w' : World) : Prop := ∃ A c, e = .returned (.tuple #[.slice A r.1.length c, .int .i64 (r.2 : Int)]) ∧ PIn w' (A, c, r.1) ∧ Below w.heap.size w w'
set_option maxRecDepth 100000 in
set_option maxHeartbeats 4000000 in
/-- pairs.Read. -/
theorem pread_any (s : ByteArray) (w : World) (hs : s.size ≤ 1000000) : Calls Try.prog 12 #[.string s] w (ReadQ w (prd s.data.toList)) := by
  have hz : s.data.toList.length = s.size := by simp
  have HN := Lib.hid (fun w => new_any s w (by omega))
  rcases cc_cases s.data.toList.length s.data.toList with ⟨n, t, h2, h3, h4, h5⟩ | ⟨k, h2, h3, _⟩
  · have er : prd s.data.toList = (if (rdl [] n t).2.1 ≠ 0 then ([], (rdl [] n t).2.1) else if (rdl [] n t).2.2 ≠ [] then ([], 6) else ((rdl [] n t).1, 0)) := by
      unfold prd; rw [h2]; rfl
    have HER := Lib.hid er
    generalize prd s.data.toList = r at *
    clear er
    have hco := fun w0 b (h : IsT w0 b s.data.toList) => count_ok b s.data.toList s.data.toList.length w0 h (by omega) h2
    rw [hz] at hco h5
    have HCO := Lib.hid hco
    have ht : t.length ≤ 1000000 := by omega
    have hn : n ≤ 1000000 := by omega
    clear hco h2 h3 h4 h5 hs hz
    go_enter Try.func12, Try.ntmps12
    go_wp2_with (fail)
    refine (HN.out _).mono ?_
    rintro e a1 ⟨b, rfl, hlo, ht1, hb⟩
    have HT := Lib.hid ht1; have HB := Lib.hid hb
    clear ht1 hb HN
    go_wp2_with (fail)
    refine (HCO.out _ b HT.out).mono ?_
    rintro e a2 ⟨rfl, ht2, htu⟩
    replace HB := Lib.hid (HB.out.trans (htu.below hlo HB.out.size))
    replace HT := Lib.hid ht2
    clear ht2 htu HCO
    go_wp2_with (fail)
    go_loopg [7, 23] n (fun kx s7 s23 wr => ∃ (i : Nat) (acc : List Pr) (u : List UInt8), i ≤ n ∧ n - i ≤ kx ∧ s23 = .int .i64 i ∧ acc.length ≤ i ∧ i ≤ acc.length ∧ u.length ≤ 1000000 ∧ Hid (wr.ownsRow w.heap.size 44 6 s7 acc.length (pcells acc)) ∧ Hid (IsT wr b u) ∧ Hid (Below w.heap.size w wr) ∧ Hid (rdl acc (n - i) u = rdl [] n t))
    case atStart => exact ⟨0, [], t, Nat.zero_le _, by omega, rfl, Nat.le_refl _, Nat.zero_le _, ht, Lib.hid ⟨rfl, .inl ⟨rfl, rfl⟩⟩, HT, HB, Lib.hid rfl⟩
    case round =>
      clear HT HB
      obtain ⟨i, acc, u, hi, hkx, rfl, hacc, hacc2, hu, HO, HT, HB, HR⟩ := hrel
      obtain ⟨A1, c1, hsl, hnil⟩ := slice_of HO.out
      subst hsl
      have HNIL := Lib.hid hnil
      clear hnil
      by_cases hlt : i < n
      · have hltz : (i : Int) < (n : Int) := by omega
        obtain ⟨m, hm⟩ : ∃ m, n - i = m + 1 := ⟨n - i - 1, by omega⟩
        rw [hm, rdl] at HR
        have hm2 : n - (i + 1) = m := by omega
        have hrp := readPair_any b u wr HT.out (by omega)
        have hok := fun p u' (h : rdp u = (p, 0, u')) => rdp_ok h
        have HOK := Lib.hid hok
        clear hok hm
        generalize rdp u = q at *
        obtain ⟨p, k, u'⟩ := q
        dsimp only at hrp HR
        have HRP := Lib.hid hrp
        clear hrp
        go_wp2_with (fail)
        refine HRP.out.mono ?_
        rintro e a3 ⟨rfl, ht3, htu⟩
        have HO1 := Lib.hid (own_tur HO.out HT.out htu)
        have HB1 := Lib.hid (HB.out.trans (htu.below hlo HB.out.size))
        have HT1 := Lib.hid ht3
        clear ht3 htu HRP HO HT HB
        by_cases hk0 : k = 0
        · subst hk0
          obtain ⟨_, e2⟩ := HOK.out p u' rfl
          have hu' : u'.length ≤ 1000000 := by rw [e2, List.length_append] at hu; omega
          clear e2 HOK
          have HR1 : Hid (rdl (acc ++ [p]) m u' = rdl [] n t) := by show _ = _; rw [← HR.out, if_neg (by simp)]
          obtain ⟨i0, hi0, hi1, hi2, hi3⟩ := info_parts infoP
          have HI0 := Lib.hid hi0; have HI1 := Lib.hid hi1; have HI2 := Lib.hid hi2; have HI3 := Lib.hid hi3
          have HE := Lib.hid (show pcl p = [.string (tx p.1), .int .i64 p.2.k, .int .i64 p.2.n, .string (tx p.2.s), .int .i64 p.2.x, .int .i64 p.2.y] from rfl)
          have HX := Lib.hid (Blk.made (a3.alloc (.cells (pcl p).toArray 44)) 44 (pcl p) (World.size_alloc a3 _))
          clear hi0 hi1 hi2 hi3 HR
          unfold pcl
          go_wp2_with (at_builtin; refine wpList_append_own _ rfl _ _ 22 rfl w.heap.size 44 i0 (.agg (pcl pz).toArray) 6 64 Try.underlying22 HI0.out HI1.out HI2.out HI3.out rfl (by decide) _ _ _ rfl ((HO1.out.alloc _).alloc _) ⟨a3.heap.size + 1, 0, none⟩ 1 1 (pcl p) rfl rfl ?c1 (pcl_one p) ?c3 ?c4 ?c5 ?_)
          case c1 =>
            intro j v hv
            have := HX.out.c j v hv
            rw [Addr.add_lit, Nat.zero_add]; exact this
          case c3 => unfold maxLen; omega
          case c4 => omega
          case c5 => have := HB1.out.size; simp; omega
          intro v' w3 hown' hgrow _
          have hb2 := (box1 a3 (.cells (pcl p).toArray 44)).alloc (by simp) (.cells (pcl p).toArray 44)
          have HO2 : Hid (w3.ownsRow w.heap.size 44 6 v' (acc ++ [p]).length (pcells (acc ++ [p]))) := by
            show World.ownsRow _ _ _ _ _ _ _
            rw [List.length_append, pcells_snoc]; exact hown'
          have HT2 := Lib.hid (tape_grown ((HO1.out.alloc _).alloc _) (One.old HT1.out hb2) hgrow)
          have HB2 := Lib.hid ((Below.next HB1.out hb2).grown hgrow (by have := HB1.out.size; simp; omega) (fun g e => (HO1.out.lt g e).1))
          clear hown' hgrow hb2 HO1 HT1 HB1 HX
          go_wp2_with (fail)
          go_roundg (n - (i + 1))
          case measure => omega
          case rel => exact ⟨i + 1, acc ++ [p], u', by omega, Nat.le_refl _, by go_num, by rw [List.length_append, List.length_singleton]; omega, by rw [List.length_append, List.length_singleton]; omega, hu', HO2, HT2, HB2, Lib.hid (by rw [hm2]; exact HR1.out)⟩
        · have hr : r = ([], k) := by
            rw [HER.out, ← HR.out, if_pos hk0, if_pos hk0]
          have HRR := Lib.hid hr
          have hk : ((k : Int) != 0) = true := by rw [bne_iff_ne]; omega
          clear hr HR HER hk0 HOK
          unfold pcl
          go_wp2_with (fail)
          go_ret2
          have HB2 := Below.next HB1.out (box1 a3 (.cells (pcl p).toArray 44))
          exact ⟨none, 0, by rw [HRR.out]; rfl, by rw [HRR.out]; exact ⟨Prs.nil _ _, fun _ => ⟨rfl, rfl⟩⟩, HB2⟩
      · have hltz : ¬ (i : Int) < (n : Int) := by omega
        obtain rfl : i = n := by omega
        rw [show i - i = 0 by omega, rdl] at HR
        by_cases hu0 : u = []
        · have hr : r = (acc, 0) := by rw [HER.out, ← HR.out, if_neg (by simp), if_neg (by simpa using hu0)]
          have HRR := Lib.hid hr
          have hen := end_yes b u wr HT.out hu0
          clear hr HR HER hu0
          go_wp2_with (fail)
          refine hen.mono ?_
          rintro e a3 ⟨rfl, rfl⟩
          obtain ⟨A2, c2, e1, hp⟩ := own_pin HO.out
          injection e1 with e1 _ e3
          subst e1; subst e3
          have HP := Lib.hid hp
          clear hp hen
          go_wp2_with (fail)
          go_ret2
          exact ⟨A1, c1, by rw [HRR.out]; rfl, by rw [HRR.out]; exact HP.out, HB.out⟩
        · have hr : r = ([], 6) := by rw [HER.out, ← HR.out, if_neg (by simp), if_pos hu0]
          have HRR := Lib.hid hr
          have hen := end_no b u wr HT.out hu0
          clear hr HR HER hu0
          go_wp2_with (fail)
          refine hen.mono ?_
          rintro e a3 ⟨rfl, rfl⟩
          clear hen
          go_wp2_with (fail)
          go_ret2
          exact ⟨none, 0, by rw [HRR.out]; rfl, by rw [HRR.out]; exact ⟨Prs.nil _ _, fun _ => ⟨rfl, rfl⟩⟩, HB.out⟩
  · have er : prd s.data.toList = ([], k) := by unfold prd; rw [h2]; dsimp only; rw [if_pos (by omega)]
    rw [er]
    clear er
    have hco := fun w0 b (h : IsT w0 b s.data.toList) => count_no b s.data.toList s.data.toList.length w0 h (by omega) h2 h3
    rw [hz] at hco
    have HCO := Lib.hid hco
    have hk : ((k : Int) != 0) = true := by rw [bne_iff_ne]; omega
    clear hco h2 h3 hs hz
    go_enter Try.func12, Try.ntmps12
    go_wp2_with (fail)
    refine (HN.out _).mono ?_
    rintro e a1 ⟨b, rfl, hlo, ht1, hb⟩
    have HT := Lib.hid ht1; have HB := Lib.hid hb
    clear ht1 hb HN
    go_wp2_with (fail)
    refine (HCO.out _ b HT.out).mono ?_
    rintro e a2 ⟨rfl, ht2, htu⟩
    replace HB := Lib.hid (HB.out.trans (htu.below hlo HB.out.size))
    clear ht2 htu HCO HT
    go_wp2_with (fail)
    go_ret2
    exact ⟨none, 0, rfl, ⟨Prs.nil _ _, fun _ => ⟨rfl, rfl⟩⟩, HB.out⟩
end Go.Proofs.Ytgakcpcpfkoaiaa.Pr

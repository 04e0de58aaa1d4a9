/-
  A text of this claim: ExParse.
-/
import Derived.Test.YtimllihegnokeaaGreatDoorQ6
namespace Go.Proofs.YtimllihegnokeaaGreatDoor.Ex
open Go.ChangeShapes Go.WideShapes Go.ChangeAt Go.RowKit Ov Va
def PP (r : List No × Nat × Nat) (w : World) (e : Ending) (w' : World) : Prop :=
 ∃ A c, e = .returned (.tuple #[.slice A r.1.length c, .int .i64 (r.2.1 : Int), .int .i64 (r.2.2 : Int)]) ∧ w'.ownsRow w.heap.size 118 6 (.slice A r.1.length c) r.1.length (cells r.1) ∧ Below w.heap.size w w'
def JP (s : ByteArray) (w : World) (a' : Act) (w' : World) : Prop := ∃ (acc : List No) (na : Nat) (m : Nat) (more : List Nat) (k : Nat) (A : Option Addr) (c : Nat) (g d : Nat) (U : Nat → Value),
 (na = acc.length ∧ k ≤ s.size ∧ acc.length ≤ 400 ∧ more.length ≤ 25 ∧ m ≤ 3 ∧ (∀ x ∈ more, x ≤ 3)) ∧
 w'.ownsRow w.heap.size 118 6 (.slice A na c) na (cells acc) ∧ w'.ownsRow w.heap.size 3 1 (.slice (some ⟨g, 0, none⟩) (more.length + 1) d) (more.length + 1) (ints (m :: more).reverse) ∧ Below w.heap.size w w' ∧
 runs ⟨acc, m :: more, s.data.toList.drop k, k⟩ = ps s.data.toList ∧
 a' = { tmps := #[.string s, undef, .slice none 0 0, .int .i64 0, .int .i64 0, .slice A na c, .slice (some ⟨g, 0, none⟩) (more.length + 1) d, .int .i64 (k : Int), (U 8), (U 9), (U 10), (U 11), (U 12), (U 13), (U 14), (U 15), (U 16), (U 17), (U 18), (U 19), (U 20), (U 21), (U 22), (U 23), (U 24), (U 25), (U 26), (U 27), (U 28), (U 29), (U 30), (U 31), (U 32), (U 33), (U 34), (U 35), (U 36), (U 37), (U 38), (U 39), (U 40), (U 41), (U 42), (U 43), (U 44), (U 45), (U 46), (U 47), (U 48), (U 49), (U 50), (U 51), (U 52), (U 53), (U 54), (U 55), (U 56), (U 57), (U 58), (U 59), (U 60), (U 61), (U 62), (U 63), (U 64), (U 65), (U 66), (U 67), (U 68), (U 69), (U 70), (U 71), (U 72), (U 73), (U 74), (U 75), (U 76), (U 77), (U 78), (U 79), (U 80), (U 81), (U 82), (U 83), (U 84), (U 85), (U 86), (U 87), (U 88), (U 89), (U 90), (U 91), (U 92), (U 93), (U 94), (U 95), (U 96), (U 97), (U 98)], defers := [] }
theorem JP.elim {s : ByteArray} {w : World} {X : Act → World → Prop} (h : ∀ (acc : List No) (na : Nat) (m : Nat) (more : List Nat) (k : Nat) (A : Option Addr) (c : Nat) (g d : Nat) (U : Nat → Value) (w' : World),
 (na = acc.length ∧ k ≤ s.size ∧ acc.length ≤ 400 ∧ more.length ≤ 25 ∧ m ≤ 3 ∧ (∀ x ∈ more, x ≤ 3)) →
 w'.ownsRow w.heap.size 118 6 (.slice A na c) na (cells acc) → w'.ownsRow w.heap.size 3 1 (.slice (some ⟨g, 0, none⟩) (more.length + 1) d) (more.length + 1) (ints (m :: more).reverse) → Below w.heap.size w w' →
 runs ⟨acc, m :: more, s.data.toList.drop k, k⟩ = ps s.data.toList → X { tmps := #[.string s, undef, .slice none 0 0, .int .i64 0, .int .i64 0, .slice A na c, .slice (some ⟨g, 0, none⟩) (more.length + 1) d, .int .i64 (k : Int), (U 8), (U 9), (U 10), (U 11), (U 12), (U 13), (U 14), (U 15), (U 16), (U 17), (U 18), (U 19), (U 20), (U 21), (U 22), (U 23), (U 24), (U 25), (U 26), (U 27), (U 28), (U 29), (U 30), (U 31), (U 32), (U 33), (U 34), (U 35), (U 36), (U 37), (U 38), (U 39), (U 40), (U 41), (U 42), (U 43), (U 44), (U 45), (U 46), (U 47), (U 48), (U 49), (U 50), (U 51), (U 52), (U 53), (U 54), (U 55), (U 56), (U 57), (U 58), (U 59), (U 60), (U 61), (U 62), (U 63), (U 64), (U 65), (U 66), (U 67), (U 68), (U 69), (U 70), (U 71), (U 72), (U 73), (U 74), (U 75), (U 76), (U 77), (U 78), (U 79), (U 80), (U 81), (U 82), (U 83), (U 84), (U 85), (U 86), (U 87), (U 88), (U 89), (U 90), (U 91), (U 92), (U 93), (U 94), (U 95), (U 96), (U 97), (U 98)], defers := [] } w') : ∀ a' w', JP s w a' w' → X a' w' := by
 rintro a' w' ⟨acc, na, m, more, k, A, c, g, d, U, h1, h2, h3, h4, h5, rfl⟩
 exact h acc na m more k A c g d U w' h1 h2 h3 h4 h5
theorem JP.intro {s : ByteArray} {w : World} (acc : List No) (na : Nat) (m : Nat) (more : List Nat) (k : Nat) (A : Option Addr) (c : Nat) (g d : Nat) {u8 u9 u10 u11 u12 u13 u14 u15 u16 u17 u18 u19 u20 u21 u22 u23 u24 u25 u26 u27 u28 u29 u30 u31 u32 u33 u34 u35 u36 u37 u38 u39 u40 u41 u42 u43 u44 u45 u46 u47 u48 u49 u50 u51 u52 u53 u54 u55 u56 u57 u58 u59 u60 u61 u62 u63 u64 u65 u66 u67 u68 u69 u70 u71 u72 u73 u74 u75 u76 u77 u78 u79 u80 u81 u82 u83 u84 u85 u86 u87 u88 u89 u90 u91 u92 u93 u94 u95 u96 u97 u98 : Value} {w' : World}
 : (na = acc.length ∧ k ≤ s.size ∧ acc.length ≤ 400 ∧ more.length ≤ 25 ∧ m ≤ 3 ∧ (∀ x ∈ more, x ≤ 3)) →
 w'.ownsRow w.heap.size 118 6 (.slice A na c) na (cells acc) → w'.ownsRow w.heap.size 3 1 (.slice (some ⟨g, 0, none⟩) (more.length + 1) d) (more.length + 1) (ints (m :: more).reverse) → Below w.heap.size w w' →
 runs ⟨acc, m :: more, s.data.toList.drop k, k⟩ = ps s.data.toList → JP s w { tmps := #[.string s, undef, .slice none 0 0, .int .i64 0, .int .i64 0, .slice A na c, .slice (some ⟨g, 0, none⟩) (more.length + 1) d, .int .i64 (k : Int), u8, u9, u10, u11, u12, u13, u14, u15, u16, u17, u18, u19, u20, u21, u22, u23, u24, u25, u26, u27, u28, u29, u30, u31, u32, u33, u34, u35, u36, u37, u38, u39, u40, u41, u42, u43, u44, u45, u46, u47, u48, u49, u50, u51, u52, u53, u54, u55, u56, u57, u58, u59, u60, u61, u62, u63, u64, u65, u66, u67, u68, u69, u70, u71, u72, u73, u74, u75, u76, u77, u78, u79, u80, u81, u82, u83, u84, u85, u86, u87, u88, u89, u90, u91, u92, u93, u94, u95, u96, u97, u98], defers := [] } w' :=
 fun h1 h2 h3 h4 h5 => ⟨acc, na, m, more, k, A, c, g, d, fun i => (#[undef, undef, undef, undef, undef, undef, undef, undef, u8, u9, u10, u11, u12, u13, u14, u15, u16, u17, u18, u19, u20, u21, u22, u23, u24, u25, u26, u27, u28, u29, u30, u31, u32, u33, u34, u35, u36, u37, u38, u39, u40, u41, u42, u43, u44, u45, u46, u47, u48, u49, u50, u51, u52, u53, u54, u55, u56, u57, u58, u59, u60, u61, u62, u63, u64, u65, u66, u67, u68, u69, u70, u71, u72, u73, u74, u75, u76, u77, u78, u79, u80, u81, u82, u83, u84, u85, u86, u87, u88, u89, u90, u91, u92, u93, u94, u95, u96, u97, u98] : Array Value).getD i undef, h1, h2, h3, h4, h5, rfl⟩
def muP (s : ByteArray) (a : Act) (_ : World) : Nat := s.size - (intOf (a.tmps.getD 7 undef)).toNat
theorem six_news (W : World) (n : No) (ty : TypeId) (b : Nat) (hb : b = W.heap.size) : ∀ j u, (ncl n)[j]? = some u → (W.alloc (.cells #[.int .i64 n.o, .int .i64 n.v.k, .int .i64 n.v.n, .string (tx n.v.s), .int .i64 n.v.x, .int .i64 n.v.y] ty)).cell? ((⟨b, 0, none⟩ : Addr).add j) = some u := by
 intro j u hu
 subst hb
 have e : (⟨W.heap.size, 0, none⟩ : Addr).add j = ⟨W.heap.size, j, none⟩ := by
  unfold Addr.add
  split
  · rename_i h; subst h; rfl
  · simp
 rw [e]
 exact (Blk.made W ty (ncl n) rfl).c j u hu
theorem one_at (W : World) (v : Value) (ty : TypeId) (b : Nat) (hb : b = W.heap.size) : ∀ j u, [v][j]? = some u → (W.alloc (.cells #[v] ty)).cell? ((⟨b, 0, none⟩ : Addr).add j) = some u := by
 subst hb; exact one_news W v ty
set_option maxRecDepth 100000 in
set_option maxHeartbeats 4000000 in
theorem parse_any (s : ByteArray) (w : World) (hk : KM w) (hs : s.size ≤ 4096) : Calls Tryz.prog 118 #[.string s] w (PP (ps s.data.toList) w) := by
 have hps : ps s.data.toList = runs ⟨[], [1], s.data.toList, 0⟩ := by
  unfold ps
  rw [if_neg (by simp; omega)]
 have HPS := Lib.hid hps
 have HK := Lib.hid hk
 clear hps hk
 go_enter Tryz.func118, Tryz.ntmps118
 go_wp2_with (fail)
 refine wp_scope_once 0 (JP s w) (muP s) rfl (fun NX => ?_) ?_
 · go_wp2_with (fail)
   go_step3
   rename_i hK
   exact hK _ _ (NX.out _ _ (JP.intro [] 0 1 [] 0 none 0 w.heap.size 1 ⟨rfl, Nat.zero_le _, Nat.zero_le _, Nat.zero_le _, by omega, by simp⟩ (World.ownsRow_nil _ _ _ _) (World.ownsRow_lit w #[.int .i64 1] 1 (Nat.le_refl _) (by decide) rfl) (box1 w _) (by rw [List.drop_zero]; exact HPS.out.symm)))
 · refine JP.elim ?_
   intro acc na m more k A c g d U wr hall hL hM hb hr
   obtain rfl := hall.1
   have hk := hall.2.1; have ha := hall.2.2.1; have hmr := hall.2.2.2.1; have hm3 := hall.2.2.2.2.1
   have HMORE := Lib.hid hall.2.2.2.2.2
   obtain ⟨b, hbl⟩ : ∃ b, bl (s.data.toList.drop k) = b := ⟨_, rfl⟩
   have hkb : k + b ≤ s.size := by
    have := bl_le (s.data.toList.drop k)
    rw [List.length_drop, hbl] at this
    have e : s.data.toList.length = s.size := by simp
    omega
   have HBL := Lib.hid (fun w => blanks_any (s.extract k s.size) w (by simp; omega))
   rw [ext_list, hbl] at HBL
   have HRUN := Lib.hid hr
   have HL := Lib.hid hL; have HM := Lib.hid hM; have HB := Lib.hid hb
   clear hr hL hM hb HPS hall
   have HD := Lib.hid (own_cap HM.out)
   have cM : wr.cell? ⟨g, more.length, none⟩ = some (.int .i64 (m : Int)) := by
    have := HD.out
    rw [HM.out.cellAt _ (by omega)]; exact ints_top m more
   have HBLK : Hid (bl (s.data.toList.drop k) = b) := hbl
   clear hbl
   by_cases hm : 0 < m
   · obtain ⟨m', rfl⟩ : ∃ m', m = m' + 1 := ⟨m - 1, by omega⟩
     have HC := Lib.hid (fun w hk => part_any (s.extract (k + b) s.size) acc.length more.length (by simp; omega) w hk)
     rw [ext_list] at HC
     obtain ⟨q, hq⟩ : ∃ q, cp (s.data.toList.drop (k + b)) acc.length more.length = q := ⟨_, rfl⟩
     rw [hq] at HC
     have hz : k + b + q.2.1 ≤ s.size := by
      have := cp_size (s.data.toList.drop (k + b)) acc.length more.length
      rw [hq, List.length_drop] at this
      have e : s.data.toList.length = s.size := by simp
      omega
     have HQ := Lib.hid hq; clear hq
     obtain ⟨nn, z, e⟩ := q
     dsimp only at hz
     go_wp2_with (fail)
     refine (HBL.out _).mono ?_
     rintro e' w' ⟨rfl, rfl⟩
     go_wp2_with (fail)
     refine (HC.out _ (HK.out.next HB.out)).mono ?_
     rintro e' w1 ⟨rfl, hb⟩
     have HB1 := Lib.hid (Below.next HB.out hb)
     have HL1 := Lib.hid (own_old HL.out hb)
     have HM1 := Lib.hid (own_old HM.out hb)
     have cM1 : w1.cell? ⟨g, more.length, none⟩ = some (.int .i64 ((m' + 1 : Nat) : Int)) := (hb.cell (p := ⟨g, more.length, none⟩) (block_lt_of_cell cM)).trans cM
     clear hb HC HBL HM HL cM
     unfold cpv nov
     by_cases he : e = 0
     · subst he
       obtain ⟨hrn, hw24, hb400, hz1, _, ho⟩ := cp_ok HQ.out
       have HRN : Hid (runs ⟨acc ++ [nn], push nn m' more, s.data.toList.drop (k + b + z), k + b + z⟩ = ps s.data.toList) := (runs_ok_part HBLK.out hm HQ.out).symm.trans HRUN.out
       clear HRUN HQ hm hrn
       obtain ⟨o, vv⟩ := nn
       dsimp only at ho ⊢
       obtain ⟨i, rfl⟩ : ∃ i : Nat, o = (i : Int) := ⟨o.toNat, by omega⟩
       have hi : i < 30 := by omega
       clear ho
       obtain ⟨i0, hi0, hi1, hi2, hi3⟩ := info_parts infoN
       have HI0 := Lib.hid hi0; have HI1 := Lib.hid hi1; have HI2 := Lib.hid hi2; have HI3 := Lib.hid hi3
       clear hi0 hi1 hi2 hi3
       have hws := HB1.out.size
       go_wp2_with (at_builtin; refine wpList_append_own _ rfl _ _ 30 rfl w.heap.size 118 i0 (nov nz) 6 56 Tryz.underlying30 HI0.out HI1.out HI2.out HI3.out rfl (by decide) _ _ _ rfl ((HL1.out.alloc _).alloc _) ⟨w1.heap.size + 1, 0, none⟩ 1 1 (ncl ⟨(i : Int), vv⟩) rfl rfl (six_news _ _ _ _ (by simp)) (ncl_one _) ?c3 ?c4 ?c5 ?_)
       case c3 => unfold maxLen; omega
       case c4 => omega
       case c5 => simp; omega
       intro v' w3 hown' hgrow _
       have hL3 : w3.ownsRow w.heap.size 118 6 v' (acc.length + 1) (cells (acc ++ [⟨(i : Int), vv⟩])) := by rw [cells_snoc]; exact hown'
       obtain ⟨A', c', rfl⟩ := own_slice hL3
       have hM2 := (HM1.out.alloc (.cells #[.int .i64 (i : Int), .int .i64 vv.k, .int .i64 vv.n, .string (tx vv.s), .int .i64 vv.x, .int .i64 vv.y] 118)).alloc (.cells #[.int .i64 (i : Int), .int .i64 vv.k, .int .i64 vv.n, .string (tx vv.s), .int .i64 vv.x, .int .i64 vv.y] 118)
       have hM3 := hM2.kept hgrow (own_ne hM2 ((HL1.out.alloc (.cells #[.int .i64 (i : Int), .int .i64 vv.k, .int .i64 vv.n, .string (tx vv.s), .int .i64 vv.x, .int .i64 vv.y] 118)).alloc (.cells #[.int .i64 (i : Int), .int .i64 vv.k, .int .i64 vv.n, .string (tx vv.s), .int .i64 vv.x, .int .i64 vv.y] 118)) (by decide))
       have hbx : w3.cell? ⟨w1.heap.size, 0, none⟩ = some (.int .i64 (i : Int)) := cell_grown hgrow (by simp) (fun e => by
        have := HL1.out.lt w1.heap.size e.symm
        omega)
       have HB3 : Hid (Below w.heap.size w w3) := ((HB1.out.alloc hws _).alloc (by simp; omega) _).grown hgrow (by simp; omega) (fun g e => (HL1.out.lt g e).1)
       have hgl := HM1.out.lt g rfl
       have hne1 : ¬ g = w1.heap.size := by omega
       have hne2 : ¬ w1.heap.size = g := by omega
       have hg0 : ¬ g = 1 := by have := HK.out.lt.1; omega
       have hg1 : ¬ 1 = g := fun e => hg0 e.symm
       have cM3 : w3.cell? ⟨g, more.length, none⟩ = some (.int .i64 ((m' + 1 : Nat) : Int)) := by
        rw [hM3.cellAt _ (by omega)]; exact ints_top _ _
       have fM3 := hM3.frozenAt more.length
       have cK3 := (HK.out.next HB3.out).parts i hi
       rw [Nat.mul_comm] at cK3
       have HST := Lib.hid (hM3.stored more.length (.int .i64 (m' : Int)))
       have HL3 := Lib.hid hL3
       have HM3 := Lib.hid hM3
       have HPA : Hid (pa (i : Int) = ptl[i]!) := pa_at hi
       have hp3 : ptl[i]! ≤ 3 := by rw [← HPA.out]; exact pa_le _
       generalize ptl[i]! = p at *
       clear hL3 hM2 hM3 hown' hgrow cM1 HI0 HI1 HI2 HI3 HM1 HL1
       have HL4 := Lib.hid (HL3.out.kept HST.out.2 (own_ne HL3.out HM3.out (by decide)))
       have HM4 : Hid ((w3.setCell ⟨g, more.length, none⟩ (.int .i64 (m' : Int))).ownsRow w.heap.size 3 1 (.slice (some ⟨g, 0, none⟩) (more.length + 1) d) (more.length + 1) (ints (m' :: more).reverse)) := by
        have := HST.out.1
        rw [ints_set] at this
        exact this
       have HB4 : Hid (Below w.heap.size w (w3.setCell ⟨g, more.length, none⟩ (.int .i64 (m' : Int)))) := HB3.out.setCell (p := ⟨g, more.length, none⟩) hgl.1 _
       clear HST HL3 HM3 HB3
       by_cases hp : p = 0
       · subst hp
         have HR : Hid (runs ⟨acc ++ [⟨(i : Int), vv⟩], m' :: more, s.data.toList.drop (k + b + z), k + b + z⟩ = ps s.data.toList) := by
          have e : push ⟨(i : Int), vv⟩ m' more = m' :: more := by
           unfold push
           rw [if_neg (by show ¬ 0 < pa (i : Int); rw [HPA.out]; omega)]
          have := HRN.out
          rw [e] at this
          exact this
         clear HRN
         go_wp2_with (fail)
         go_step3
         refine ⟨rfl, JP.intro _ _ m' more (k + b + z) A' c' g d ⟨by simp, hz, by simp; omega, hmr, by omega, HMORE.out⟩ HL4.out HM4.out HB4.out HR.out, ?_⟩
         simp [muP, intOf]; omega
       · have hp0 : (0 : Int) < (p : Int) := by omega
         have HR : Hid (runs ⟨acc ++ [⟨(i : Int), vv⟩], p :: m' :: more, s.data.toList.drop (k + b + z), k + b + z⟩ = ps s.data.toList) := by
          have e : push ⟨(i : Int), vv⟩ m' more = p :: m' :: more := by
           unfold push
           rw [if_pos (by show 0 < pa (i : Int); rw [HPA.out]; omega)]
           show pa (i : Int) :: _ = _
           rw [HPA.out]
          have := HRN.out
          rw [e] at this
          exact this
         clear HRN hp
         obtain ⟨j0, hj0, hj1, hj2, hj3⟩ := info_parts infoI
         have HJ0 := Lib.hid hj0; have HJ1 := Lib.hid hj1; have HJ2 := Lib.hid hj2; have HJ3 := Lib.hid hj3
         clear hj0 hj1 hj2 hj3
         have hz3 : w.heap.size ≤ w3.heap.size := by have := HB4.out.size; simpa using this
         go_wp2_with (at_builtin; refine wpList_append_own _ rfl _ _ 153 rfl w.heap.size 3 j0 (.int .i64 0) 1 8 Tryz.underlying153 HJ0.out HJ1.out HJ2.out HJ3.out rfl (by decide) _ _ _ rfl (HM4.out.alloc _) ⟨w3.heap.size, 0, none⟩ 1 1 [.int .i64 (p : Int)] rfl rfl (one_at _ _ _ _ (by simp)) (one_one rfl) ?d3 ?d4 ?d5 ?_)
         case d3 => unfold maxLen; omega
         case d4 => omega
         case d5 => simp; omega
         intro v'' w5 hown5 hgrow5 _
         have hM5 : w5.ownsRow w.heap.size 3 1 v'' (more.length + 1 + 1) (ints (p :: m' :: more).reverse) := by rw [← ints_push, List.reverse_cons]; exact hown5
         obtain ⟨g5, d5, rfl, _, _⟩ := hM5.form (by omega)
         have hL5 := (HL4.out.alloc (.cells #[.int .i64 (p : Int)] 3)).kept hgrow5 (own_ne (HL4.out.alloc (.cells #[.int .i64 (p : Int)] 3)) (HM4.out.alloc (.cells #[.int .i64 (p : Int)] 3)) (by decide))
         have HL5 := Lib.hid hL5
         have HM5 := Lib.hid hM5
         have HB5 : Hid (Below w.heap.size w w5) := (HB4.out.alloc HB4.out.size _).grown hgrow5 (by simp; omega) (fun g e => (HM4.out.lt g e).1)
         clear hL5 hM5 hown5 hgrow5 HL4 HM4 HB4 HJ0 HJ1 HJ2 HJ3
         go_wp2_with (fail)
         go_step3
         refine ⟨rfl, JP.intro _ _ p (m' :: more) (k + b + z) A' c' g5 d5 ⟨by simp, hz, by simp; omega, by simp; omega, hp3, fun x hx => ?_⟩ HL5.out HM5.out HB5.out HR.out, ?_⟩
         · rcases List.mem_cons.1 hx with rfl | hx
           · omega
           · exact HMORE.out x hx
         · simp [muP, intOf]; omega
     · have hev : ((e : Int) != 0) = true := by rw [bne_iff_ne]; omega
       have HE : Hid (ps s.data.toList = ([], k + b + z, e)) := HRUN.out.symm.trans (runs_bad_part HBLK.out hm HQ.out he)
       clear HRUN HQ he cM1
       go_wp2_with (fail)
       simp only [Exit.jump]
       go_ret3
       rw [HE.out]
       exact ⟨none, 0, rfl, World.ownsRow_nil _ _ _ _, HB1.out.alloc HB1.out.size _⟩
   · obtain rfl : m = 0 := by omega
     clear hm
     cases more with
     | cons m2 more =>
       have HS := Lib.hid (fun w => shuts_any (s.extract (k + b) s.size) w (by simp; omega))
       rw [ext_list] at HS
       obtain ⟨e, hq⟩ : ∃ e, sh (s.data.toList.drop (k + b)) = e := ⟨_, rfl⟩
       rw [hq] at HS
       have HQ := Lib.hid hq; clear hq
       have hpos : (0 : Int) < (more.length : Int) + 1 := by omega
       have hmr2 : more.length ≤ 24 := by simp at hmr; omega
       have cM2 : wr.cell? ⟨g, more.length + 1, none⟩ = some (.int .i64 0) := cM
       clear cM hmr
       go_wp2_with (fail)
       refine (HBL.out _).mono ?_
       rintro e' w' ⟨rfl, rfl⟩
       go_wp2_with (fail)
       refine (HS.out _).mono ?_
       rintro e' w' ⟨rfl, rfl⟩
       by_cases he : e = 0
       · subst he
         obtain ⟨u, hu⟩ := sh_ok HQ.out
         have hk1 : k + b + 1 ≤ s.size := by
          have := congrArg List.length hu
          rw [List.length_drop, List.length_cons] at this
          have e : s.data.toList.length = s.size := by simp
          omega
         have HR := Lib.hid ((runs_ok_shut HBLK.out (by simp) HQ.out).symm.trans HRUN.out)
         have HM2 : Hid (wr.ownsRow w.heap.size 3 1 (.slice (some ⟨g, 0, none⟩) (more.length + 1) d) (more.length + 1) (ints (m2 :: more).reverse)) := by
          have := own_take HM.out (k := (m2 :: more).length) (by simp)
          rw [ints_take] at this
          exact this
         have hd2 : more.length + 1 ≤ d := by have := HD.out.1; simp at this; omega
         clear HRUN HQ hu u HM cM2
         go_wp2_with (fail)
         go_step3
         refine ⟨rfl, JP.intro acc _ m2 more (k + b + 1) A c g d ⟨rfl, hk1, ha, by omega, HMORE.out m2 (by simp), fun x hx => HMORE.out x (by simp [hx])⟩ HL.out HM2.out HB.out HR.out, ?_⟩
         simp [muP, intOf]; omega
       · have hev : ((e : Int) != 0) = true := by rw [bne_iff_ne]; omega
         have HE : Hid (ps s.data.toList = ([], k + b, e)) := HRUN.out.symm.trans (runs_bad_shut HBLK.out (by simp) HQ.out he)
         clear HRUN HQ he cM2
         go_wp2_with (fail)
         simp only [Exit.jump]
         go_ret3
         rw [HE.out]
         exact ⟨none, 0, rfl, World.ownsRow_nil _ _ _ _, HB.out⟩
     | nil =>
       have cM2 : wr.cell? ⟨g, 0, none⟩ = some (.int .i64 0) := cM
       clear cM hmr HMORE
       by_cases hlt : k + b < s.size
       · have HE : Hid (ps s.data.toList = ([], k + b, 10)) := HRUN.out.symm.trans (runs_left HBLK.out (by
          intro e
          have := congrArg List.length e
          rw [List.length_drop] at this
          have e : s.data.toList.length = s.size := by simp
          simp at this; omega))
         have hlt2 : (k : Int) + (b : Int) < (s.size : Int) := by omega
         clear HRUN hlt
         go_wp2_with (fail)
         refine (HBL.out _).mono ?_
         rintro e' w' ⟨rfl, rfl⟩
         go_wp2_with (fail)
         simp only [Exit.jump]
         go_ret3
         rw [HE.out]
         exact ⟨none, 0, rfl, World.ownsRow_nil _ _ _ _, HB.out⟩
       · have HE : Hid (ps s.data.toList = (acc, 0, 0)) := HRUN.out.symm.trans (runs_all HBLK.out (List.drop_of_length_le (by simp; omega)))
         have hlt2 : ¬ (k : Int) + (b : Int) < (s.size : Int) := by omega
         clear HRUN hlt
         go_wp2_with (fail)
         refine (HBL.out _).mono ?_
         rintro e' w' ⟨rfl, rfl⟩
         go_wp2_with (fail)
         simp only [Exit.jump]
         go_ret3
         rw [HE.out]
         exact ⟨A, c, rfl, HL.out, HB.out⟩
theorem parse_large (s : ByteArray) (w : World) (hs : 4096 < s.size) : Calls Tryz.prog 118 #[.string s] w (PP (ps s.data.toList) w) := by
 have HE : Hid (ps s.data.toList = ([], 0, 3)) := by show _ = _; unfold ps; rw [if_pos (by simp; omega)]
 go_enter Tryz.func118, Tryz.ntmps118
 go_wp2_with (fail)
 refine wp_scope_once 0 (fun _ _ => False) (fun _ _ => 0) rfl (fun NX => ?_) (fun _ _ h => h.elim)
 go_wp2_with (fail)
 simp only [Exit.jump]
 go_ret3
 rw [HE.out]
 exact ⟨none, 0, rfl, World.ownsRow_nil _ _ _ _, Below.refl _ _⟩
theorem eparse_any (s : ByteArray) (w : World) (hk : KM w) : Calls Tryz.prog 118 #[.string s] w (PP (ps s.data.toList) w) := by
 by_cases hs : s.size ≤ 4096
 · exact parse_any s w hk hs
 · exact parse_large s w (by omega)
end Go.Proofs.YtimllihegnokeaaGreatDoor.Ex

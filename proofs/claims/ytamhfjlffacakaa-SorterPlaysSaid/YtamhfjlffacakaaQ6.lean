/-
  Small texts of this claim, together: SoFolds1, SoMerge, SoNo, SoMrg1, SoEnd, SoGive, SoAwake, SoPlR, SoFill, SoRunsL, SoRoom, SoAll.
-/
import Derived.Test.YtamhfjlffacakaaQSoFold
import Derived.Test.YtamhfjlffacakaaQ4
import Derived.Test.YtamhfjlffacakaaQSoIts
import Derived.Test.YtamhfjlffacakaaQ5
import Derived.Test.YtamhfjlffacakaaQ1
import Derived.Sort.CutIn
import Derived.Test.YtamhfjlffacakaaQSoPutS
import Derived.Lib.SliceRun
import Derived.Test.YtamhfjlffacakaaQPrRef
import Derived.Test.YtamhfjlffacakaaQVaRef
namespace Go.Proofs.Ytamhfjlffacakaa.So
open Go.Proofs Ov Va St Pr Jo Go.Sort
section
variable {w : List UInt8}
end
end Go.Proofs.Ytamhfjlffacakaa.So
namespace Go.Proofs.Ytamhfjlffacakaa.So
open Go.ChangeShapes Go.WideShapes Go.ChangeAt Go.RowKit Go.Sort Go.Shelf Go.Proofs Ov Va St Pr
theorem merged_any (A : Option Addr) (k c : Nat) (w : World) : Calls Try.prog 25 #[.slice A k c] w fun e w' => e = .returned (.func (.func 36) #[] #[.pointer (some ⟨w.heap.size, 0, none⟩)]) ∧ Blk w' w.heap.size [.slice A k c] ∧ Below w.heap.size w w' := by
 have HB := Lib.hid (box1 w (.cells #[.slice A k c] 38))
 have HK := Lib.hid (Blk.made w 38 [.slice A k c] rfl)
 go_enter Try.func25, Try.ntmps25
 go_wp2_with (fail)
 go_ret
 exact ⟨rfl, HK.out, HB.out⟩
def MI (w : World) (bx b6 : Nat) (A : Option Addr) (c k : Nat) (pre : List Pr) (O : Nat → Prop) (X : World) : Prop :=
 ∃ v, Blk X b6 [v] ∧ Blk X bx [.slice A k c] ∧ X.ownsRow w.heap.size 35 6 v pre.length (pcells pre) ∧ (∀ g, v.ownBlock = some g → ¬ O g ∧ g ≠ b6 ∧ g ≠ bx) ∧ ¬ O b6 ∧ ¬ O bx ∧ (∀ b, O b → w.heap.size ≤ b ∧ b < X.heap.size) ∧ Below w.heap.size w X
theorem MI.step {w : World} {bx b6 : Nat} {A : Option Addr} {c k : Nat} {pre : List Pr} {O O' : Nat → Prop} {X Y : World} (h : MI w bx b6 A c k pre O X) (q : Kp O X Y) (ho : ∀ b, O' b → b < Y.heap.size ∧ (O b ∨ X.heap.size ≤ b)) : MI w bx b6 A c k pre O' Y := by
 obtain ⟨v, h6, hx, hr, hg, n6, nx, hO, hb⟩ := h
 have hs := hb.size
 refine ⟨v, h6.kp q n6, hx.kp q nx, own_kp hr q fun g e => (hg g e).1, fun g e => ⟨fun e' => ?_, (hg g e).2⟩, fun e' => ?_, fun e' => ?_, fun b e => ⟨?_, (ho b e).1⟩, hb.trans (q.below (fun b e => (hO b e).1) hs)⟩
 · rcases (ho g e').2 with h | h
   · exact (hg g e).1 h
   · have := (own_lt hr e).2; omega
 · rcases (ho b6 e').2 with h | h
   · exact n6 h
   · have := h6.lt; omega
 · rcases (ho bx e').2 with h | h
   · exact nx h
   · have := hx.lt; omega
 · rcases (ho b e).2 with h | h
   · exact (hO b h).1
   · omega
attribute [local go_sem] Oper.semAt_some
set_option maxRecDepth 100000 in
set_option maxHeartbeats 4000000 in
theorem merge_yes (A : Option Addr) (c : Nat) (qs : List Part) (w : World) (h : LlN w A qs) (hK : Rk qs c) (hT : (rsOf qs).flatten.length ≤ 1000000) :
 Calls Try.prog 16 #[.slice A qs.length c] w fun e w' => ∃ v, e = .returned (.tuple #[v, .int .i64 0]) ∧ w'.ownsRow w.heap.size 35 6 v (rsOf qs).flatten.length (pcells (sr (rsOf qs).flatten)) ∧ Below w.heap.size w w' := by
 have HL := Lib.hid h; have HK := Lib.hid hK; have HT := Lib.hid hT
 clear h hK hT
 refine (callsIn_wide (n := 9)).1 ?_
 refine callsIn_of_wp_marks Try.func16 rfl trivial ?_ rfl
 simp only [Try.ntmps16, List.size_toArray, List.length_cons, List.length_nil, Nat.reduceAdd, Nat.reduceSub, Array.replicate_succ, Array.replicate_zero, List.push_toArray, List.append_toArray, List.nil_append, List.cons_append]
 have hkl := HK.out.k
 gi_wp2
 gi_loopw [10] (fun s10 wr => ∃ i : Nat, s10 = .int .i64 i ∧ i ≤ qs.length ∧ Hid (Below w.heap.size w wr)) (fun s10 _ => qs.length - (intOf s10).toNat)
 case atStart => exact ⟨0, rfl, Nat.zero_le _, Below.refl _ _⟩
 case round =>
  obtain ⟨i, rfl, hi, HB⟩ := hrel
  by_cases hlt : i < qs.length
  · have hltz : (i : Int) < (qs.length : Int) := by omega
    obtain ⟨B, O, hA, hc, hp⟩ := (HL.out.next HB.out) i hlt
    subst hA
    have hkn := HK.out.n i hlt
    have hod := HK.out.o i hlt
    unfold pv at hc
    have hcall := ordered_any (qd qs i).1 (qd qs i).2.1 (qd qs i).2.2 wr hp.1 hkn.1
    generalize (qd qs i).1 = Ai at *
    generalize (qd qs i).2.1 = ci at *
    generalize (qd qs i).2.2 = li at *
    gi_wp2_with (refine ⟨trivial, ?_⟩; refine (callsIn_wide.2 hcall).mono ?_; rintro e w1 ⟨q, rfl, hq, hb⟩; have hq' := hq.2 hod; clear hq; subst hq'; replace hb := Lib.hid hb; clear hp hod)
    exact ⟨⟨i + 1, by go_num, by omega, Below.next HB.out hb.out⟩, by simp [intOf]; omega⟩
  · obtain rfl : i = qs.length := by omega
    have hltz : ¬ (qs.length : Int) < (qs.length : Int) := by omega
    gi_wp2_with (refine ⟨trivial, ?_⟩; refine (callsIn_wide.2 (merged_any _ _ _ _)).mono ?_; rintro e w1 ⟨rfl, hk, hb⟩)
    obtain ⟨b6, hb6⟩ : ∃ x, x = wr.heap.size := ⟨_, rfl⟩
    have hz6 := World.size_alloc wr (.cells #[.slice none 0 0] 22)
    have h6 : Blk w1 b6 [.slice none 0 0] := by rw [hb6]; exact (Blk.made wr 22 [.slice none 0 0] rfl).next hb
    rw [hz6] at hk
    obtain ⟨bx, hbx⟩ : ∃ x, x = wr.heap.size + 1 := ⟨_, rfl⟩
    rw [← hbx] at hk ⊢
    have hB1 : Below w.heap.size w w1 := Below.next HB.out (Below.next (box1 wr _) hb)
    have hne : b6 ≠ bx := by omega
    have hI0 : MI w bx b6 A c qs.length [] (fun _ => False) w1 := ⟨.slice none 0 0, h6, hk, World.ownsRow_nil _ _ _ _, (fun g e => by cases e), (fun h => h), (fun h => h), (fun b h => h.elim), hB1⟩
    have HI0 := Lib.hid hI0
    have HNE := Lib.hid hne
    have HB1 := Lib.hid hB1
    have H6B : Hid (b6 < w1.heap.size ∧ bx < w1.heap.size ∧ w.heap.size ≤ b6 ∧ w.heap.size ≤ bx) := by
     have h1 := h6.lt; have h2 := hk.lt; have h3 := HB.out.size
     show _ ∧ _ ∧ _ ∧ _
     omega
    rw [← hb6]
    clear hk hb h6 hI0 hB1 hne hz6 hbx hb6
    refine wpIn_rngA (F := Fence.wide) (M := Mm bx A c qs) (Fx := fun pre x _ => ∃ rest, sr (rsOf qs).flatten = pre ++ x :: rest) (S := fun xs => xs = sr (rsOf qs).flatten) (Sp := fun pre => ∃ rest, sr (rsOf qs).flatten = pre ++ rest) rfl (by decide) (gf := 36) (lb := #[.pointer (some ⟨bx, 0, none⟩)]) rfl trivial (enters_of Try.func36 (by kernel_rfl) rfl)
     (merged1_its bx A c qs HK.out 8) (fun _ => rfl)
     (fun pre O X => MI w bx b6 A c qs.length pre O X) (fun _ _ => False)
     (fun s O O' X Y h k ho => h.step k ho) (fun s O X h b hb => by obtain ⟨_, _, _, _, _, _, _, h7, _⟩ := h; exact (h7 b hb).2) (fun s X Y h k => h)
     (fun s O X h => by obtain ⟨_, _, h2, _, _, _, _, _, h8⟩ := h; exact ⟨h2.c 0 _ rfl, HL.out.next h8⟩) HI0.out
     (fun pre x X l o o' h _ _ => h)
     (fun x X => { tmps := #[.slice A qs.length c, undef, u2, u3, undef, u5, .pointer (some ⟨b6, 0, none⟩), .pointer (some ⟨X.heap.size, 0, none⟩), .slice A qs.length c, .int .i64 qs.length, .int .i64 qs.length, .bool false, u12, u13, u14, u15, u16, u17, .slice A qs.length c, .func (.func 36) #[] #[.pointer (some ⟨bx, 0, none⟩)], .agg (pcl x).toArray, undef, undef, undef, undef, undef], defers := [] })
     (fun x X => X.alloc (.cells (pcl x).toArray 35)) (fun x X => box1 X _) (fun pre x X h => h) ?assign ?body ?done ?stop
    case assign =>
     intro l x X K hK
     unfold enP pcl
     unfold pcl at hK
     gi_wp2
     exact hK
    case body =>
     intro l pre x O X V hI hx hk hlt
     obtain ⟨rest, hrest⟩ := hx
     have hlen : pre.length + 1 ≤ 1000000 := by
      have h1 := congrArg List.length hrest
      rw [sr_len, List.length_append, List.length_cons] at h1
      have := HT.out; omega
     clear hrest
     obtain ⟨v, h6, hxx, hr, hg, n6, nx, hO, hb⟩ := hI
     have hp7 : Blk V X.heap.size (pcl x) := (Blk.made X 35 (pcl x) rfl).kp hk fun e => by omega
     obtain ⟨i0, hi0, hi1, hi2, hi3⟩ := info_parts infoP
     have HI0' := Lib.hid hi0; have HI1 := Lib.hid hi1; have HI2 := Lib.hid hi2; have HI3 := Lib.hid hi3
     obtain ⟨xk, ⟨vk, vn, vs, vx, vy⟩⟩ := x
     have x0 := hp7.c 0 _ rfl; have x1 := hp7.c 1 _ rfl; have x2 := hp7.c 2 _ rfl; have x3 := hp7.c 3 _ rfl; have x4 := hp7.c 4 _ rfl; have x5 := hp7.c 5 _ rfl
     have c6 := h6.c 0 _ rfl
     have H6 := Lib.hid h6; have HXX := Lib.hid hxx; have HR := Lib.hid hr; have HG := Lib.hid hg; have HN6 := Lib.hid n6; have HNX := Lib.hid nx; have HO := Lib.hid hO; have HBV := Lib.hid hb
     have HHL := Lib.hid hlen
     obtain ⟨Av, cv, e1, _, _⟩ := own_slice hr
     subst e1
     clear hi0 hi1 hi2 hi3 h6 hxx hr hg n6 nx hO hb hk hlt hp7
     gi_wp2_with (gi_at_builtin; refine wpListIn_append_at _ rfl _ _ 22 rfl w.heap.size 35 i0 (.agg (pcl pz).toArray) 6 64 Try.underlying22 HI0'.out HI1.out HI2.out HI3.out rfl (by decide) _ _ _ rfl (own_keep HR.out (box1 V _)) _ 1 1 (pcl (xk, ⟨vk, vn, vs, vx, vy⟩)) rfl rfl ?c1 (pcl_one _) ?c3 ?c4 ?c5 ?_)
     case c1 =>
      intro j u hj
      exact hj
     case c3 => unfold maxLen; omega
     case c4 => omega
     case c5 => have := HBV.out.size; omega
     intro v' w3 hown' hgrow hat
     have hO6 : ∀ b, O b → b ≠ b6 := fun b hb e => HN6.out (e ▸ hb)
     have hOv : ∀ b, O b → (Value.slice Av pre.length cv).ownBlock ≠ some b := fun b hb e => (HG.out b e).1 hb
     have hvv : (Value.slice Av pre.length cv).ownBlock ≠ some b6 := fun e => (HG.out b6 e).2.1 rfl
     have hh3 := ((H6.out.old (.cells (pcl (xk, ⟨vk, vn, vs, vx, vy⟩)).toArray 35)).kp (O := fun b => (Value.slice Av pre.length cv).ownBlock = some b) ((Kp.refl _ _).grown hgrow fun b e => .inl e) fun e => hvv e)
     have hk3 : Kp (fun b => b = b6 ∨ (Value.slice Av pre.length cv).ownBlock = some b) V w3 := ((Kp.refl _ V).alloc _).grown hgrow fun b e => .inl (.inr e)
     have hk4 := hk3.setCell (b := b6) (.inl rfl) 0 v'
     have hv' : ∀ g, v'.ownBlock = some g → ¬ O g ∧ g ≠ b6 ∧ g ≠ bx := fun g e => by
      rcases hat with h | h
      · exact HG.out g (by rw [← h]; exact e)
      · rw [h] at e
        injection e with e
        have h1 := H6.out.lt; have h2 := HXX.out.lt
        exact ⟨fun h => by have := (HO.out g h).2; omega, by omega, by omega⟩
     have hrow : (w3.setCell ⟨b6, 0, none⟩ v').ownsRow w.heap.size 35 6 v' (pre ++ [((xk, ⟨vk, vn, vs, vx, vy⟩) : Pr)]).length (pcells (pre ++ [(xk, ⟨vk, vn, vs, vx, vy⟩)])) := by
      rw [pcells_snoc, List.length_append]
      exact own_kp (O := fun b => b = b6) hown' ((Kp.refl (fun b => b = b6) w3).setCell (b := b6) rfl 0 _) fun g e h => (hv' g e).2.1 h
     have hx4 := HXX.out.kp hk4 fun e => e.elim (fun e => HNE.out e.symm) fun e => (HG.out bx e).2.2 rfl
     have HFIN : Hid (V.heap.size ≤ (w3.setCell ⟨b6, 0, none⟩ v').heap.size ∧ (∀ b, O b → b < V.heap.size → (w3.setCell ⟨b6, 0, none⟩ v').heap[b]? = V.heap[b]?) ∧ MI w bx b6 A c qs.length (pre ++ [(xk, ⟨vk, vn, vs, vx, vy⟩)]) O (w3.setCell ⟨b6, 0, none⟩ v')) :=
      ⟨hk4.size, fun b hb hl => hk4.block b hl fun e => e.elim (hO6 b hb) fun e => hOv b hb e,
       ⟨v', hh3.set 0 v', hx4, hrow, hv', HN6.out, HNX.out, fun b hb => ⟨(HO.out b hb).1, Nat.lt_of_lt_of_le (HO.out b hb).2 hk4.size⟩,
        HBV.out.trans (hk4.below (fun b e => e.elim (fun e => by rw [e]; exact H6B.out.2.2.1) fun e => (own_lt HR.out e).1) HBV.out.size)⟩⟩
     have c3 := hh3.c 0 _ rfl
     have f3 := hh3.f 0 _ rfl
     have HS3 : Hid (∃ A3 n3 c3, v' = .slice A3 n3 c3) := by
      obtain ⟨A3, c3, e, _⟩ := own_slice hown'
      exact ⟨A3, _, c3, e⟩
     clear hO6 hOv hvv hh3 hk3 hk4 hv' hrow hx4 hown' hgrow hat c6 x0 x1 x2 x3 x4 x5
     obtain ⟨A3, n3, c3', rfl⟩ := HS3.out
     gi_wp2
     exact HFIN.out
    case done =>
     intro D xs O X hD hS hI hd
     subst hS
     obtain ⟨v, h6, hxx, hr, hg, n6, nx, hO, hb⟩ := hI
     have c6 := h6.c 0 _ rfl
     have HB9 := Lib.hid hb; have HR9 := Lib.hid hr
     clear hxx hg n6 nx hO hb hr h6
     have hkp : Kp (fun b => b = D) X (X.putObj D (.deferred none)) := Kp.putObj X D _ rfl
     have hr' : (X.putObj D (.deferred none)).ownsRow w.heap.size 35 6 v (sr (rsOf qs).flatten).length (pcells (sr (rsOf qs).flatten)) := own_kp HR9.out hkp fun g e h => by
      subst h
      rcases HR9.out.2 with ⟨h1, _⟩ | ⟨g', cap, cur, h1, _, hc, _⟩
      · subst h1; cases e
      · subst h1
        have e' : some g' = some g := e
        injection e' with e'
        subst e'
        rw [hd] at hc; cases hc
     rw [sr_len] at hr'
     have HR8 := Lib.hid hr'
     have HD := Lib.hid hd
     have hD' : w.heap.size ≤ D := by have := HB1.out.size; omega
     have HB8 := Lib.hid (HB9.out.trans (below_put (.deferred none) hD' HB9.out.size))
     clear hkp hr' hd hD hD'
     gi_wp2
     refine ⟨by simp, .inl ⟨D, _, rfl, run_takeDeferred HD.out, ?_⟩⟩
     exact ⟨.tuple #[v, .int .i64 0], by simp [results, Try.results16, go_sem], v, rfl, HR8.out, HB8.out⟩
    case stop =>
     intro D pre X hD hS hI hd
     exact hI.elim
attribute [local go_sem] Oper.semAt_some
set_option maxRecDepth 100000 in
set_option maxHeartbeats 4000000 in
theorem sfold_no (A : Option Addr) (c : Nat) (l : List Pr) (cw : ByteArray) (w : World) (h : PIn w (A, c, l)) (hl : l.length ≤ 100000) (hO : ¬ Od l) :
 Calls Try.prog 17 #[.slice A l.length c, .string cw] w (Gives (.tuple #[.slice none 0 0, .int .i64 17]) w) := by
 have HI := Lib.hid h; have HOD := Lib.hid hO
 clear h hO
 have H3 := Lib.hid (((Blk.made w 9 [.string cw] rfl).old (.cells #[.slice none 0 0] 22)).old (.cells #[.int .i64 0] 26))
 have H4 := Lib.hid ((Blk.made (w.alloc (.cells #[.string cw] 9)) 22 [.slice none 0 0] (World.size_alloc _ _)).old (.cells #[.int .i64 0] 26))
 have H5 := Lib.hid (Blk.made ((w.alloc (.cells #[.string cw] 9)).alloc (.cells #[.slice none 0 0] 22)) 26 [.int .i64 0] (by rw [World.size_alloc, World.size_alloc]))
 have HB := Lib.hid (box3 w (.cells #[.string cw] 9) (.cells #[.slice none 0 0] 22) (.cells #[.int .i64 0] 26))
 refine (callsIn_wide (n := 9)).1 ?_
 refine callsIn_of_wp_marks Try.func17 rfl trivial ?_ rfl
 simp only [Try.ntmps17, List.size_toArray, List.length_cons, List.length_nil, Nat.reduceAdd, Nat.reduceSub, Array.replicate_succ, Array.replicate_zero, List.push_toArray, List.append_toArray, List.nil_append, List.cons_append]
 gi_wp2
 generalize ((w.alloc (.cells #[.string cw] 9)).alloc (.cells #[.slice none 0 0] 22)).alloc (.cells #[.int .i64 0] 26) = w0 at *
 have hor := ordered_any A c l w0 (HI.out.next HB.out).1 (by omega)
 obtain ⟨b4, e4⟩ : ∃ b, b = w.heap.size + 1 := ⟨_, rfl⟩
 obtain ⟨b5, e5⟩ : ∃ b, b = w.heap.size + 1 + 1 := ⟨_, rfl⟩
 rw [← e5, ← e4]
 rw [← e5] at H5
 rw [← e4] at H4
 have HN := Lib.hid (show b4 ≠ b5 ∧ w.heap.size ≤ b4 ∧ w.heap.size ≤ b5 by omega)
 clear e4 e5
 gi_wp2_with (refine ⟨trivial, ?_⟩; refine (callsIn_wide.2 hor).mono ?_; rintro e a1 ⟨q, rfl, hq, hb⟩; have hq' : q = false := (by cases q with | false => rfl | true => exact absurd (hq.1 rfl) HOD.out); clear hq; subst hq'; replace H4 := Lib.hid (H4.out.next hb); replace H5 := Lib.hid (H5.out.next hb); replace HB := Lib.hid (Below.next HB.out hb); clear hb; have g5 := H5.out.put (c := b4) HN.out.1 0 (.slice none 0 0); have z4 := ((H4.out.set 0 (.slice none 0 0)).put (c := b5) (Ne.symm HN.out.1) 0 (.int .i64 17)).c 0 _ rfl; have z5 := (g5.set 0 (.int .i64 17)).c 0 _ rfl; have c4 := H4.out.c 0 _ rfl; have f4 := H4.out.f 0 _ rfl; have c5 := g5.c 0 _ rfl; have f5 := g5.f 0 _ rfl; clear g5)
 exact ⟨_, by simp [results, Try.results17, go_sem, z4, z5], rfl, (HB.out.setCell (p := ⟨b4, 0, none⟩) HN.out.2.1 _).setCell (p := ⟨b5, 0, none⟩) HN.out.2.2 _⟩
set_option maxRecDepth 100000 in
set_option maxHeartbeats 4000000 in
theorem merge_no (A : Option Addr) (c : Nat) (qs : List Part) (w : World) (h : LlN w A qs) (hk : qs.length ≤ 1000000) (hn : ∀ i, i < qs.length → (qd qs i).2.2.length ≤ 100000) (hno : ∃ i, i < qs.length ∧ ¬ Od (qd qs i).2.2) :
 Calls Try.prog 16 #[.slice A qs.length c] w (Gives (.tuple #[.slice none 0 0, .int .i64 17]) w) := by
 have HL := Lib.hid h; have HNN := Lib.hid hn; have HNO := Lib.hid hno
 clear h hn hno
 refine (callsIn_wide (n := 9)).1 ?_
 refine callsIn_of_wp_marks Try.func16 rfl trivial ?_ rfl
 simp only [Try.ntmps16, List.size_toArray, List.length_cons, List.length_nil, Nat.reduceAdd, Nat.reduceSub, Array.replicate_succ, Array.replicate_zero, List.push_toArray, List.append_toArray, List.nil_append, List.cons_append]
 gi_wp2
 gi_loopw [10] (fun s10 wr => ∃ i : Nat, s10 = .int .i64 i ∧ i ≤ qs.length ∧ Hid (∀ j, j < i → Od (qd qs j).2.2) ∧ Hid (Below w.heap.size w wr)) (fun s10 _ => qs.length - (intOf s10).toNat)
 case atStart => exact ⟨0, rfl, Nat.zero_le _, (fun j hj => absurd hj (Nat.not_lt_zero _)), Below.refl _ _⟩
 case round =>
  obtain ⟨i, rfl, hi, HOO, HB⟩ := hrel
  by_cases hlt : i < qs.length
  · have hltz : (i : Int) < (qs.length : Int) := by omega
    obtain ⟨B, O, hA, hc, hp⟩ := (HL.out.next HB.out) i hlt
    subst hA
    have hkn := HNN.out i hlt
    unfold pv at hc
    have hcall := ordered_any (qd qs i).1 (qd qs i).2.1 (qd qs i).2.2 wr hp.1 (by omega)
    have HOI := Lib.hid (fun (h : Od (qd qs i).2.2) (j : Nat) (hj : j < i + 1) => show Od (qd qs j).2.2 by
     rcases Nat.lt_succ_iff_lt_or_eq.1 hj with h' | rfl
     · exact HOO.out j h'
     · exact h)
    generalize (qd qs i).1 = Ai at *
    generalize (qd qs i).2.1 = ci at *
    generalize (qd qs i).2.2 = li at *
    gi_wp2_with (refine ⟨trivial, ?_⟩; refine (callsIn_wide.2 hcall).mono ?_; rintro e w1 ⟨q, rfl, hq, hb⟩; replace hb := Lib.hid hb; replace hq := Lib.hid hq; clear hp hcall; cases q)
    · exact ⟨_, by simp [results, Try.results16, go_sem], rfl, Below.next HB.out hb.out⟩
    · exact ⟨⟨i + 1, by go_num, by omega, HOI.out (hq.out.1 (by first | trivial | simp)), Below.next HB.out hb.out⟩, by simp [intOf]; omega⟩
  · obtain rfl : i = qs.length := by omega
    obtain ⟨j, hj, hno⟩ := HNO.out
    exact absurd (HOO.out j hj) hno
end Go.Proofs.Ytamhfjlffacakaa.So
namespace Go.Proofs.Ytamhfjlffacakaa.So
open Go.ChangeShapes Go.WideShapes Go.ChangeAt Go.RowKit Go.Sort Go.Shelf Go.Proofs Ov Va St Pr Jo
theorem foldQ_df {cw : List UInt8} {l : List Pr} {w w' : World} {e : Ending} (hO : Od l) (h : FoldQ cw l w e w') : ∃ A c m er, e = .returned (.tuple #[.slice A m.length c, .int .i64 er]) ∧ PIn w' (A, c, m) ∧ Below w.heap.size w w' ∧ m.length ≤ l.length ∧ df cw l = (m, er) := by
 obtain ⟨hb, ⟨m, v, rfl, hy, hr, hl⟩ | ⟨er, rfl, ⟨hn, _⟩, pre, x, rest, ht, hok, hx⟩⟩ := h
 · obtain ⟨A, c, rfl, hp⟩ := own_pin hr
   exact ⟨A, c, m, 0, rfl, hp, hb, hl, df_foldY hO hy⟩
 · refine ⟨none, 0, [], er, rfl, ⟨Prs.nil _ _, fun _ => ⟨rfl, rfl⟩⟩, hb, Nat.zero_le _, ?_⟩
   have := df_no ht hok (by rw [hx]; exact hn)
   rw [sr_self l hO, hx] at this
   exact this
theorem rk3 {A0 A1 A2 : Option Addr} {c0 c1 c2 c : Nat} {la lb lc : List Pr} (h0 : la.length ≤ c0) (h1 : lb.length ≤ c1) (h2 : lc.length ≤ c2) (l0 : la.length ≤ 1000000) (l1 : lb.length ≤ 1000000) (l2 : lc.length ≤ 1000000) (ta : Tx la) (tb : Tx lb) (tc : Tx lc) (oa : Od la) (ob : Od lb) (oc : Od lc) (hc : 3 ≤ c) :
 Rk [(A0, c0, la), (A1, c1, lb), (A2, c2, lc)] c :=
 ⟨by simp, hc, fun r hr => by
  have hr' : r < 3 := hr
  match r, hr' with
  | 0, _ => exact ⟨l0, h0⟩
  | 1, _ => exact ⟨l1, h1⟩
  | 2, _ => exact ⟨l2, h2⟩, fun r hr => by
  have hr' : r < 3 := hr
  match r, hr' with
  | 0, _ => exact ta
  | 1, _ => exact tb
  | 2, _ => exact tc, fun r hr => by
  have hr' : r < 3 := hr
  match r, hr' with
  | 0, _ => exact oa
  | 1, _ => exact ob
  | 2, _ => exact oc⟩
theorem lln3 {A0 A1 A2 : Option Addr} {c0 c1 c2 : Nat} {la lb lc : List Pr} (w : World) (ha : PIn w (A0, c0, la)) (hb : PIn w (A1, c1, lb)) (hc : PIn w (A2, c2, lc)) (t : TypeId) :
 LlN (w.alloc (.cells ([(A0, c0, la), (A1, c1, lb), (A2, c2, lc)].map pv).toArray t)) (some ⟨w.heap.size, 0, none⟩) [(A0, c0, la), (A1, c1, lb), (A2, c2, lc)] :=
 Lls.lln (lls_made w [(A0, c0, la), (A1, c1, lb), (A2, c2, lc)] t fun i hi => by
  have hi' : i < 3 := hi
  match i, hi' with
  | 0, _ => exact ha
  | 1, _ => exact hb
  | 2, _ => exact hc)
theorem od_sr (l : List Pr) : l = sr l ↔ Od l := ⟨fun h => by rw [h]; exact sr_od l, fun h => (sr_self l h).symm⟩
end Go.Proofs.Ytamhfjlffacakaa.So
namespace Go.Proofs.Ytamhfjlffacakaa.So
open Go.ChangeShapes Go.WideShapes Go.ChangeAt Go.RowKit Go.Sort Go.Shelf Go.Proofs Ov Va St Pr
theorem own_none (w : World) (lo : Nat) (h : lo ≤ w.heap.size) (e : TypeId) (size : Nat) : (w.alloc (.cells #[] e)).ownsRow lo e size (.slice (some ⟨w.heap.size, 0, none⟩) 0 0) 0 [] :=
 ⟨by simp, .inr ⟨w.heap.size, 0, #[], rfl, h, (by show (w.heap.push _)[w.heap.size]? = _; simp), Nat.le_refl _, Nat.zero_le _, by simp, by simp⟩⟩
set_option maxHeartbeats 1000000 in
set_option maxRecDepth 100000 in
theorem clone_runs (L : Option Addr) (q cL lo : Nat) (vs : List Value) (w : World) (h : w.ownsRow lo 22 1 (.slice L q cL) q vs) (h1 : ∀ u ∈ vs, u.oneCell' = true) (hq : q ≤ 100000) :
 Calls Try.prog 35 #[.slice L q cL] w fun e w' => ∃ v, e = .returned v ∧ w'.ownsRow w.heap.size 22 1 v q vs ∧ Below w.heap.size w w' := by
 have H := Lib.hid h; have H1 := Lib.hid h1
 rcases h.2 with ⟨e, h0⟩ | ⟨g, cap, cur, e, _⟩
 · injection e with e1 e2 e3
   subst e1; subst e2; subst e3
   have hv : vs = [] := List.eq_nil_of_length_eq_zero (by have := h.1; simpa using this)
   subst hv
   clear h h1
   go_enter Try.func35, Try.ntmps35
   have hE : (binOp .eql 38 (.slice none 0 0) (.slice none 0 0)).run Try.prog w = .ok (.bool true) w := Lib.run_eql_slice_nil w 38 22 none 0 0 0 0 Try.underlying38
   go_wp2_with (fail)
   go_ret
   exact ⟨_, rfl, World.ownsRow_nil _ _ _ _, Below.refl _ _⟩
 · injection e with e1 e2 e3
   subst e1
   obtain ⟨i1, hj0, hj1, hj2, hj3⟩ := info_parts infoL
   have HJ0 := Lib.hid hj0; have HJ1 := Lib.hid hj1; have HJ2 := Lib.hid hj2; have HJ3 := Lib.hid hj3
   have hvl : vs.length = q * 1 := h.1
   have hcells := h.cells (g := g) rfl
   have HVL := Lib.hid hvl; have HCE := Lib.hid hcells
   clear h h1 hj0 hj1 hj2 hj3 hvl hcells e2 e3
   go_enter Try.func35, Try.ntmps35
   have hE : (binOp .eql 38 (.slice (some ⟨g, 0, none⟩) q cL) (.slice none 0 0)).run Try.prog w = .ok (.bool false) w := Lib.run_eql_slice_nil w 38 22 (some ⟨g, 0, none⟩) q cL 0 0 Try.underlying38
   go_wp2_with (at_builtin; refine wpList_append_own _ rfl _ _ 38 rfl w.heap.size 22 i1 (.slice none 0 0) 1 24 Try.underlying38 HJ0.out HJ1.out HJ2.out HJ3.out rfl (by decide) _ _ _ rfl (own_none w _ (Nat.le_refl _) 22 1) ⟨g, 0, none⟩ q cL vs rfl HVL.out ?c1 H1.out ?c3 ?c4 ?c5 ?_)
   case c1 =>
    intro j u hj
    have := HCE.out j u hj
    exact ((box1 w _).cell (block_lt_of_cell this)).trans this
   case c3 => unfold maxLen; omega
   case c4 => omega
   case c5 => rw [World.size_alloc]; omega
   intro v' w3 hown' hgrow _
   have HB := Lib.hid ((box1 w (.cells #[] 22)).grown hgrow (by rw [World.size_alloc]; omega) (fun k e => by cases e; exact Nat.le_refl _))
   have HO := Lib.hid hown'
   clear hown' hgrow
   go_wp2_with (fail)
   go_ret
   exact ⟨v', rfl, HO.out, HB.out⟩
def rsE (room : Nat) (l : List Pr) (q : Nat) : List (List Pr) := (List.range q).map (ch room l) ++ (if l.length = q * room then [] else [sr (l.drop (q * room))])
def EndQ (room : Nat) (l : List Pr) (q : Nat) (w : World) (e : Ending) (w' : World) : Prop :=
 ∃ (v : Value) (ps' : List Part), e = .returned v ∧ w'.ownsRow w.heap.size 22 1 v ps'.length (ps'.map pv) ∧ (∀ x ∈ ps', PIn w' x ∧ x.2.2.length ≤ x.2.1 ∧ ∀ g o, x.1 = some ⟨g, o, none⟩ → v.ownBlock ≠ some g) ∧ ps'.map (·.2.2) = rsE room l q ∧ Below w.heap.size w w'
set_option maxHeartbeats 2000000 in
set_option maxRecDepth 100000 in
theorem ended_any {lo b room q : Nat} {l : List Pr} {vi vl : Value} {ps : List Part} (w : World) (h : SS w lo b room l q vi vl ps) (hl : l.length ≤ 100000) (hr1 : 1 ≤ room) (hX : Tx l) :
 Calls Try.prog 23 #[.pointer (some ⟨b, 0, none⟩)] w (EndQ room l q w) := by
 obtain ⟨A, cA, e1, hAc, hAn⟩ := own_slice h.i
 obtain ⟨L, cL, e2, hLc, hLn⟩ := own_slice h.d
 subst e1; subst e2
 have hq : q ≤ 100000 := by have := Nat.le_mul_of_pos_right q hr1; have := h.q1; omega
 have hpl : ps.length = q := by have := h.d.1; simpa using this
 have hcl := clone_runs L q cL lo (ps.map pv) w h.d (fun u hu => by obtain ⟨x, _, rfl⟩ := List.mem_map.1 hu; rfl) hq
 have HS := Lib.hid h; have HX := Lib.hid hX; have HPL := Lib.hid hpl
 obtain ⟨n, hn⟩ : ∃ n, n = l.length - q * room := ⟨_, rfl⟩
 have HN := Lib.hid hn
 have c2 := h.h.c 2 _ rfl
 clear h hX hpl hn
 go_enter Try.func23, Try.ntmps23
 go_wp2_with (fail)
 refine hcl.mono ?_
 rintro e w1 ⟨v1, rfl, hown, hb⟩
 have HO1 := Lib.hid hown; have HB1 := Lib.hid hb
 have hs1 := HS.out.next hb
 have c1 := hs1.h.c 1 _ rfl
 rw [← HN.out] at c1
 have HS1 := Lib.hid hs1
 clear hcl hown hb hs1 c2
 have HLS : Hid (∀ x ∈ ps, PIn w1 x ∧ x.2.2.length ≤ x.2.1) := fun x hx => ⟨⟨(HS1.out.o x hx).1.prs, (HS1.out.o x hx).2.1⟩, (HS1.out.o x hx).2.2⟩
 rcases Nat.eq_zero_or_pos n with h0 | h0
 · subst h0
   obtain ⟨A9, c9, e9, _⟩ := own_slice HO1.out
   subst e9
   go_wp2_with (fail)
   go_ret
   refine ⟨_, ps, rfl, by rw [HPL.out]; exact HO1.out, fun x hx => ⟨(HLS.out x hx).1, (HLS.out x hx).2, fun g o e hv => ?_⟩, ?_, HB1.out⟩
   · have h1 := (own_lt HO1.out hv).1
     have h2 := (HS.out.o x hx).1.lt g o e
     omega
   have h1 := HS.out.q1; have h2 := HN.out
   unfold rsE
   rw [if_pos (by omega), List.append_nil]; exact HS.out.p
 · have h0z : (0 : Int) < (n : Int) := by omega
   have hPI : PIn w1 (A, cA, l.drop (q * room)) := ⟨prs_own (by have := HS1.out.i; exact this) (by rw [List.length_drop]), fun e => by
    have := hAn e; rw [← HN.out] at this; omega⟩
   have hso := sort_any A cA (l.drop (q * room)) w1 hPI (by rw [List.length_drop]; omega) (fun z hz => HX.out z (List.mem_of_mem_drop hz))
   rw [List.length_drop, ← HN.out] at hso
   have hsl : (sr (l.drop (q * room))).length = n := by rw [sr_len, List.length_drop]; exact HN.out.symm
   have HSL := Lib.hid hsl
   obtain ⟨i1, hj0, hj1, hj2, hj3⟩ := info_parts infoL
   have HJ0 := Lib.hid hj0; have HJ1 := Lib.hid hj1; have HJ2 := Lib.hid hj2; have HJ3 := Lib.hid hj3
   have HW : Hid (w.heap.size ≤ w1.heap.size) := HB1.out.size
   clear hj0 hj1 hj2 hj3 hPI hsl
   obtain ⟨A9, c9, e9, _, _⟩ := own_slice HO1.out
   subst e9
   go_wp2_with (fail)
   refine hso.mono ?_
   rintro e w2 ⟨A1, c1', rfl, ho2, hn2, hc2, hb2⟩
   rw [HSL.out] at hc2 ⊢
   have HO2 := Lib.hid ho2; have HN2 := Lib.hid hn2; have HC2 := Lib.hid hc2; have HB2 := Lib.hid hb2
   have HOW := Lib.hid (own_keep (own_keep HO1.out hb2) (box1 w2 (.cells #[.slice A1 n c1'] 22)))
   have HB12 := Lib.hid (Below.next HB1.out hb2)
   clear ho2 hn2 hc2 hb2 c1
   go_wp2_with (at_builtin; refine wpList_append_own_at _ rfl _ _ 38 rfl w.heap.size 22 i1 (.slice none 0 0) 1 24 Try.underlying38 HJ0.out HJ1.out HJ2.out HJ3.out rfl (by decide) _ _ _ rfl HOW.out ⟨w2.heap.size, 0, none⟩ 1 1 [.slice A1 n c1'] rfl rfl ?c1 ?c2 ?c3 ?c4 ?c5 ?_)
   case c1 =>
    intro j u hj
    rw [Addr.add_lit, Nat.zero_add]
    exact (Blk.made w2 22 [.slice A1 n c1'] rfl).c j u hj
   case c2 =>
    intro u hu
    obtain rfl : u = .slice A1 n c1' := by simpa using hu
    rfl
   case c3 => unfold maxLen; omega
   case c4 => omega
   case c5 => have := HB12.out.size; rw [World.size_alloc]; omega
   intro v' w3 hown' hgrow _ hat
   have hBa := (box1 w2 (.cells #[.slice A1 n c1'] 22))
   have hkp : ∀ (x : Part), PIn (w2.alloc (.cells #[.slice A1 n c1'] 22)) x → (∀ g o, x.1 = some ⟨g, o, none⟩ → 0 < x.2.2.length → (Value.slice A9 q c9).ownBlock ≠ some g) → PIn w3 x := fun x hx hne => ⟨fun h0 => by
    obtain ⟨B, O, e, hc⟩ := hx.1 h0
    refine ⟨B, O, e, fun i j v hi hv => ?_⟩
    have hcell := hc i j v hi hv
    have hlt : B < (w2.alloc (.cells #[.slice A1 n c1'] 22)).heap.size := block_lt_of_cell hcell
    exact (World.cell?_of_block (a := ⟨B, O + i * 6 + j, none⟩) (hgrow.block B hlt fun e' => hne B O e h0 e'.symm)).trans hcell, hx.2⟩
   have HAT : Hid (v'.ownBlock = (Value.slice A9 q c9).ownBlock ∨ v'.ownBlock = some (w2.heap.size + 1)) := hat
   have HO3 := Lib.hid hown'
   have HB3 := Lib.hid ((Below.next HB12.out hBa).grown hgrow (by have := HB12.out.size; rw [World.size_alloc]; omega) (fun k e => (own_lt HOW.out e).1))
   have HKP := Lib.hid hkp
   clear hown' hgrow hkp hBa hat
   go_wp2_with (fail)
   go_ret
   have hal := fun x hx => (HLS.out x hx)
   refine ⟨v', ps ++ [(A1, c1', sr (l.drop (q * room)))], rfl, ?_, fun x hx => ?_, ?_, HB3.out⟩
   · have e1 : (ps ++ [((A1, c1', sr (l.drop (q * room))) : Part)]).length = q + 1 := by rw [List.length_append, HPL.out]; rfl
     rw [e1, List.map_append]
     have e2 : pv ((A1, c1', sr (l.drop (q * room))) : Part) = .slice A1 n c1' := by unfold pv; dsimp only; rw [HSL.out]
     simp only [List.map_cons, List.map_nil, e2]
     exact HO3.out
   · rcases List.mem_append.1 hx with hx | hx
     · refine ⟨HKP.out x (((hal x hx).1.next HB2.out).next (box1 w2 _)) fun g o e h0 hv => ?_, (hal x hx).2, fun g o e hv => ?_⟩
       rotate_left
       · have h1 := (own_lt HO3.out hv).1
         have h2 := (HS.out.o x hx).1.lt g o e
         omega
       have h1 := (own_lt HO1.out hv).1
       have h2 := (HS.out.o x hx).1.lt g o e
       omega
     · have hA1 : ∀ g o, A1 = some ⟨g, o, none⟩ → w1.heap.size ≤ g ∧ g < w2.heap.size := fun g o e => by
        refine ⟨?_, HO2.out.lt g o e⟩
        rcases HO2.out with ⟨_, e1⟩ | ⟨g', e1, h3, _⟩
        · rw [e1] at e; cases e
        · rw [e1] at e
          injection e with e
          injection e with e
          omega
       obtain rfl : x = (A1, c1', sr (l.drop (q * room))) := by simpa using hx
       refine ⟨HKP.out _ ⟨(HO2.out.next (box1 w2 _)).prs, HN2.out⟩ fun g o e h0 hv => ?_, by dsimp only; rw [HSL.out]; exact HC2.out, fun g o e hv => ?_⟩
       rotate_left
       · have h5 := hA1 g o e
         rcases HAT.out with h | h
         · rw [h] at hv; have := (own_lt HO1.out hv).2; omega
         · rw [h] at hv; injection hv with hv; omega
       have h1 := (own_lt HO1.out hv).2
       have h2 : w1.heap.size ≤ g := by
        rcases HO2.out with ⟨_, e1⟩ | ⟨g', e1, h3, _⟩
        · dsimp only at e; rw [e1] at e; cases e
        · dsimp only at e
          rw [e1] at e
          injection e with e
          injection e with e
          omega
       omega
   · have h1 := HS.out.q1; have h2 := HN.out
     unfold rsE
     rw [if_neg (by omega), List.map_append, HS.out.p]
     rfl
def RunsQ (rs : List (List Pr)) (w : World) (e : Ending) (w' : World) : Prop :=
 ∃ (v : Value) (qs : List Part), e = .returned v ∧ w'.ownsRow w.heap.size 22 1 v qs.length (qs.map pv) ∧ (∀ x ∈ qs, OwnL w.heap.size w' x.1 x.2.2 ∧ (x.1 = none → x.2.2 = [] ∧ x.2.1 = 0) ∧ x.2.2.length ≤ x.2.1) ∧ qs.map (·.2.2) = rs ∧ Below w.heap.size w w'
structure RI (w wr : World) (v : Value) (m i : Nat) (rs : List (List Pr)) (qs : List Part) : Prop where
 len : qs.length = m
 row : wr.ownsRow w.heap.size 22 1 v m (qs.map pv)
 rs : qs.map (·.2.2) = rs
 all : ∀ x ∈ qs, PIn wr x ∧ x.2.2.length ≤ x.2.1 ∧ ∀ g o, x.1 = some ⟨g, o, none⟩ → v.ownBlock ≠ some g
 own : ∀ j, j < i → OwnL w.heap.size wr (qd qs j).1 (qd qs j).2.2
 b : Below w.heap.size w wr
theorem _root_.Go.Proofs.Ytamhfjlffacakaa.Pr.PIn.kp {O : Nat → Prop} {w w' : World} {x : Part} (h : PIn w x) (k : Kp O w w') (hO : ∀ g o, x.1 = some ⟨g, o, none⟩ → ¬ O g) : PIn w' x := ⟨fun h0 => by
 obtain ⟨B, o, e, hc⟩ := h.1 h0
 refine ⟨B, o, e, fun i j v hi hv => ?_⟩
 have hcell := hc i j v hi hv
 exact (k.cell (p := ⟨B, o + i * 6 + j, none⟩) (hO B o e) (block_lt_of_cell hcell)).trans hcell, h.2⟩
theorem qd_set {qs : List Part} {i j : Nat} {x : Part} (hi : i < qs.length) : qd (qs.set i x) j = if j = i then x else qd qs j := by
 unfold qd
 rw [List.getElem?_set]
 by_cases e : i = j
 · subst e; rw [if_pos rfl, if_pos hi, if_pos rfl]; rfl
 · rw [if_neg e, if_neg (fun h => e h.symm)]
theorem qd_mem {qs : List Part} {i : Nat} (hi : i < qs.length) : qd qs i ∈ qs := by
 unfold qd; rw [List.getElem?_eq_getElem hi]; exact List.getElem_mem hi
theorem RI.step {w wr w1 : World} {g c m i : Nat} {rs : List (List Pr)} {qs : List Part} (h : RI w wr (.slice (some ⟨g, 0, none⟩) m c) m i rs qs) (hi : i < m)
 (ho : OwnL wr.heap.size w1 (some ⟨wr.heap.size, 0, none⟩) (qd qs i).2.2) (hb : Below wr.heap.size wr w1) :
 RI w (w1.setCell ⟨g, i, none⟩ (.slice (some ⟨wr.heap.size, 0, none⟩) (qd qs i).2.2.length (qd qs i).2.2.length)) (.slice (some ⟨g, 0, none⟩) m c) m (i + 1) rs (qs.set i (some ⟨wr.heap.size, 0, none⟩, (qd qs i).2.2.length, (qd qs i).2.2)) := by
 have hgl := own_lt h.row (g := g) rfl
 have hz := hb.size
 have hil : i < qs.length := by rw [h.len]; exact hi
 have hset : Kp (fun b => b = g) w1 (w1.setCell ⟨g, i, none⟩ (.slice (some ⟨wr.heap.size, 0, none⟩) (qd qs i).2.2.length (qd qs i).2.2.length)) := (Kp.refl (fun b => b = g) w1).setCell (b := g) rfl i _
 have hnew : OwnL wr.heap.size (w1.setCell ⟨g, i, none⟩ (.slice (some ⟨wr.heap.size, 0, none⟩) (qd qs i).2.2.length (qd qs i).2.2.length)) (some ⟨wr.heap.size, 0, none⟩) (qd qs i).2.2 := ho.kp hset fun y o e h => by
  injection e with e; injection e with e; omega
 refine ⟨by rw [List.length_set]; exact h.len, ?_, ?_, fun x hx => ?_, fun j hj => ?_, ?_⟩
 · have := ((own_keep h.row hb).stored i (.slice (some ⟨wr.heap.size, 0, none⟩) (qd qs i).2.2.length (qd qs i).2.2.length)).1
   rw [List.map_set]; exact this
 · rw [List.map_set, ← h.rs]
   have hm : i < (qs.map (·.2.2)).length := by simpa using hil
   have e : (qd qs i).2.2 = (qs.map (·.2.2))[i] := by
    unfold qd
    rw [List.getElem?_eq_getElem hil, List.getElem_map]; rfl
   show (qs.map (·.2.2)).set i (qd qs i).2.2 = _
   rw [e]
   exact List.set_getElem_self hm
 · rcases List.mem_or_eq_of_mem_set hx with hx | rfl
   · have ha := h.all x hx
     refine ⟨(ha.1.next hb).kp hset fun y o e h => ha.2.2 y o e (by rw [h]; rfl), ha.2⟩
   · refine ⟨⟨hnew.prs, fun e => by cases e⟩, Nat.le_refl _, fun y o e hv => ?_⟩
     injection e with e; injection e with e
     have hv' : some g = some y := hv
     injection hv' with hv'
     omega
 · rw [qd_set hil]
   split
   · exact hnew.lower h.b.size
   · rename_i hne
     have hx := h.own j (by omega)
     refine (hx.next hb).kp hset fun y o e hy => (h.all _ (qd_mem (by omega))).2.2 y o e (by rw [hy]; rfl)
 · exact (Below.next h.b hb).setCell (p := ⟨g, i, none⟩) hgl.1 _
set_option maxHeartbeats 2000000 in
set_option maxRecDepth 100000 in
theorem runs_any {lo b room q : Nat} {l : List Pr} {vi vl : Value} {ps : List Part} (w : World) (h : SS w lo b room l q vi vl ps) (hl : l.length ≤ 100000) (hr1 : 1 ≤ room) (hX : Tx l) :
 Calls Try.prog 11 #[.pointer (some ⟨b, 0, none⟩)] w (RunsQ (rsE room l q) w) := by
 have hend := ended_any w h hl hr1 hX
 unfold EndQ at hend
 have HXR : Hid (∀ r ∈ rsE room l q, Tx r ∧ r.length ≤ 100000) := fun r hr => by
  have sub : ∀ m : List Pr, (∀ z ∈ m, z ∈ l) → m.length ≤ l.length → Tx (sr m) ∧ (sr m).length ≤ 100000 := fun m hm hml => ⟨fun z hz => hX z (hm z ((sr_mem m z).1 hz)), by rw [sr_len]; omega⟩
  unfold rsE at hr
  rcases List.mem_append.1 hr with hr | hr
  · obtain ⟨i, _, rfl⟩ := List.mem_map.1 hr
    exact sub _ (fun z hz => List.mem_of_mem_drop (List.mem_of_mem_take hz)) (by rw [List.length_take, List.length_drop]; omega)
  · split at hr
    · cases hr
    · obtain rfl : r = sr (l.drop (q * room)) := by simpa using hr
      exact sub _ (fun z hz => List.mem_of_mem_drop hz) (by rw [List.length_drop]; omega)
 have hq : q ≤ 100000 := by have := Nat.le_mul_of_pos_right q hr1; have := h.q1; omega
 have HRL : Hid ((rsE room l q).length ≤ 100001) := by
  show _ ≤ _
  unfold rsE
  rw [List.length_append, List.length_map, List.length_range]
  split
  · simp; omega
  · simp; omega
 clear h hl hX
 generalize rsE room l q = rs at *
 go_enter Try.func11, Try.ntmps11
 go_wp2_with (fail)
 refine hend.mono ?_
 rintro e w1 ⟨v, ps', rfl, hrow, hall, hrs, hb⟩
 clear hend
 obtain ⟨A9, c9, e9, hc9, hn9⟩ := own_slice hrow
 obtain ⟨m, hm⟩ : ∃ m, m = ps'.length := ⟨_, rfl⟩
 have hR : RI w w1 v m 0 rs ps' := ⟨hm.symm, by rw [hm]; exact hrow, hrs, hall, (fun j hj => absurd hj (Nat.not_lt_zero _)), hb⟩
 have hml : m ≤ 100001 := by have := congrArg List.length hrs; rw [List.length_map] at this; have := HRL.out; omega
 rw [← hm] at e9 hc9
 have hn0 : A9 = none → m = 0 := fun e => by rw [hm]; exact (hn9 e).1
 subst e9
 have HR := Lib.hid hR
 have HN0 := Lib.hid hn0
 clear hrow hall hrs hb hm hn9 hR hn0
 go_wp2_with (fail)
 go_loopg [10] m (fun kx s10 wr => ∃ (i : Nat) (qs : List Part), i ≤ m ∧ m - i ≤ kx ∧ s10 = .int .i64 i ∧ Hid (RI w wr (.slice A9 m c9) m i rs qs))
 case atStart => exact ⟨0, ps', Nat.zero_le _, by omega, rfl, HR⟩
 case round =>
  clear HR
  obtain ⟨i, qs, hi, hkx, rfl, HR⟩ := hrel
  by_cases hlt : i < m
  · have hltz : (i : Int) < (m : Int) := by omega
    rcases HR.out.row.2 with ⟨_, e0⟩ | ⟨g, cap, cur, e, _⟩
    · omega
    · injection e with e1 e2 e3
      subst e1
      have hil : i < qs.length := by rw [HR.out.len]; exact hlt
      have hcell : wr.cell? ⟨g, i, none⟩ = some (pv (qd qs i)) := by
       rw [HR.out.row.cellAt i (by omega)]
       unfold qd
       rw [List.getElem?_map, List.getElem?_eq_getElem hil]; rfl
      have hfr : ∀ X : World, X.ownsRow w.heap.size 22 1 (.slice (some ⟨g, 0, none⟩) m c9) m (qs.map pv) → X.cell? ⟨g, i, none⟩ = some (pv (qd qs i)) ∧ X.frozen? ⟨g, i, none⟩ = false := fun X hX => ⟨by
       rw [hX.cellAt i (by omega)]
       unfold qd
       rw [List.getElem?_map, List.getElem?_eq_getElem hil]; rfl, hX.frozenAt _⟩
      have HFR := Lib.hid hfr
      have hPi := (HR.out.all _ (qd_mem hil)).1
      have hmem : (qd qs i).2.2 ∈ rs := by rw [← HR.out.rs]; exact List.mem_map.2 ⟨_, qd_mem hil, rfl⟩
      have hxr := HXR.out _ hmem
      have hcall := ownPairs_any (qd qs i).1 (qd qs i).2.1 (qd qs i).2.2 wr hPi.1 hxr.2 hxr.1
      have hlen := hxr.2
      unfold pv at hcell
      clear hPi hmem hxr hfr e2 e3
      obtain ⟨xA, hxA⟩ : ∃ x, x = (qd qs i).1 := ⟨_, rfl⟩
      obtain ⟨xc, hxc⟩ : ∃ x, x = (qd qs i).2.1 := ⟨_, rfl⟩
      obtain ⟨xn, hxn⟩ : ∃ x, x = (qd qs i).2.2.length := ⟨_, rfl⟩
      have HXN := Lib.hid hxn
      rw [← hxA, ← hxc, ← hxn] at hcell hcall
      rw [← hxn] at hlen
      clear hxA hxc hxn
      go_wp2_with (fail)
      refine hcall.mono ?_
      rintro e w2 ⟨rfl, ho, hb⟩
      have HST := Lib.hid (HR.out.step hlt ho hb)
      obtain ⟨d0, d1⟩ := HFR.out w2 (own_keep HR.out.row hb)
      unfold pv at d0
      rw [← HXN.out] at HST
      clear hcall ho hb hcell
      go_wp2_with (fail)
      go_roundg (m - (i + 1))
      case measure => omega
      case rel => exact ⟨i + 1, _, by omega, Nat.le_refl _, by go_num, HST⟩
  · obtain rfl : i = m := by omega
    have hltz : ¬ (i : Int) < (i : Int) := by omega
    go_wp2_with (fail)
    go_ret
    refine ⟨_, qs, rfl, by rw [HR.out.len]; exact HR.out.row, fun x hx => ?_, HR.out.rs, HR.out.b⟩
    obtain ⟨j, hj, e⟩ := List.getElem_of_mem hx
    have e' : qd qs j = x := by unfold qd; rw [List.getElem?_eq_getElem hj, e]; rfl
    have ho := HR.out.own j (by rw [← HR.out.len]; exact hj)
    rw [e'] at ho
    have ha := HR.out.all x hx
    exact ⟨ho, ha.1.2, ha.2.1⟩
def p1 (c : UInt8) : Pr := ([c], ⟨0, 0, [], 0, 0⟩)
theorem pcl_p1 (c : UInt8) : (pcl (p1 c)).toArray = #[.string ⟨#[c]⟩, .int .i64 0, .int .i64 0, .string ⟨#[]⟩, .int .i64 0, .int .i64 0] := rfl
theorem tx_p1 (l : List UInt8) : Tx (l.map p1) := fun z hz => by
 obtain ⟨c, _, rfl⟩ := List.mem_map.1 hz
 exact ⟨by simp [p1], by simp [p1]⟩
theorem rs_awake : rsE 2 ([98, 97, 99].map p1) 1 = [[p1 97, p1 98], [p1 99]] := by decide
theorem two_parts {qs : List Part} {a b : List Pr} (h : qs.map (·.2.2) = [a, b]) : ∃ A c B d, qs = [(A, c, a), (B, d, b)] := by
 match qs, h with
 | [], h => cases h
 | [x], h => simp at h
 | [x, y], h =>
   simp only [List.map_cons, List.map_nil, List.cons.injEq, and_true] at h
   obtain ⟨A, c, l⟩ := x
   obtain ⟨B, d, m⟩ := y
   obtain ⟨h1, h2⟩ := h
   dsimp only at h1 h2
   subst h1; subst h2
   exact ⟨A, c, B, d, rfl⟩
 | _ :: _ :: _ :: _, h => simp at h
set_option maxHeartbeats 2000000 in
set_option maxRecDepth 100000 in
theorem awake12_any (w : World) : Calls Try.prog 5 #[] w (Gives (.bool true) w) := by
 have hn := new_yes 2 (by decide) (by decide) w
 go_enter Try.func5, Try.ntmps5
 go_wp2_with (fail)
 refine hn.mono ?_
 rintro e w1 ⟨rfl, hs1, hb1⟩
 have HB1 := Lib.hid hb1
 have hp1 := put_yes (p1 98) w1 hs1 rfl (by simp) (by decide) (by decide) (tx_p1 [98]) hb1.size
 rw [pcl_p1] at hp1
 clear hn hb1
 go_wp2_with (fail)
 refine hp1.mono ?_
 rintro e w2 ⟨rfl, q2, vi2, vl2, ps2, hs2, hk2, _⟩
 have HB2 := Lib.hid (HB1.out.trans (hk2.below (fun c e => (hs1.old c e).1) HB1.out.size))
 have hp2 := put_yes (p1 97) w2 hs2 rfl (by simp) (by decide) (by decide) (tx_p1 [98, 97]) HB2.out.size
 rw [pcl_p1] at hp2
 clear hp1 hk2 hs1 HB1
 go_wp2_with (fail)
 refine hp2.mono ?_
 rintro e w3 ⟨rfl, q3, vi3, vl3, ps3, hs3, hk3, _⟩
 have HB3 := Lib.hid (HB2.out.trans (hk3.below (fun c e => (hs2.old c e).1) HB2.out.size))
 have hp3 := put_yes (p1 99) w3 hs3 rfl (by simp) (by decide) (by decide) (tx_p1 [98, 97, 99]) HB3.out.size
 rw [pcl_p1] at hp3
 clear hp2 hk3 hs2 HB2
 go_wp2_with (fail)
 refine hp3.mono ?_
 rintro e w4 ⟨rfl, q4, vi4, vl4, ps4, hs4, hk4, _⟩
 have HB4 := Lib.hid (HB3.out.trans (hk4.below (fun c e => (hs3.old c e).1) HB3.out.size))
 have hq : q4 = 1 := by
  have h1 := hs4.q1; have h2 := hs4.q2
  simp at h1 h2
  omega
 subst hq
 have hr := runs_any w4 hs4 (by simp) (by decide) (tx_p1 [98, 97, 99])
 have er : rsE 2 ([] ++ [p1 98] ++ [p1 97] ++ [p1 99]) 1 = [[p1 97, p1 98], [p1 99]] := rs_awake
 rw [er] at hr
 clear hp3 hk4 hs3 hs4 HB3 er
 go_wp2_with (fail)
 refine hr.mono ?_
 rintro e w5 ⟨v, qs, rfl, hrow, hall, hrs, hb⟩
 have HB5 := Lib.hid (Below.next HB4.out hb)
 clear hr hb HB4
 obtain ⟨xA, xc, yA, yc, rfl⟩ := two_parts hrs
 obtain ⟨g, c, rfl⟩ := own_shape' (n := 1) hrow
 have c0 : w5.cell? ⟨g, 0, none⟩ = some (.slice xA 2 xc) := (hrow.cellAt 0 (by decide)).trans rfl
 have c1 : w5.cell? ⟨g, 1, none⟩ = some (.slice yA 1 yc) := (hrow.cellAt 1 (by decide)).trans rfl
 have hx : Prs w5 xA [p1 97, p1 98] := (hall _ (List.mem_cons_self ..)).1.prs
 have hy : Prs w5 yA [p1 99] := (hall _ (List.mem_cons_of_mem _ (List.mem_cons_self ..))).1.prs
 obtain ⟨G, O, e1⟩ := hx.shape (by decide)
 obtain ⟨G', O', e2⟩ := hy.shape (by decide)
 subst e1; subst e2
 have d0 : w5.cell? ⟨G, O, none⟩ = some (.string ⟨#[97]⟩) := hx.cell (i := 0) (by decide) 0 _ rfl
 have d1 : w5.cell? ⟨G', O', none⟩ = some (.string ⟨#[99]⟩) := hy.cell (i := 0) (by decide) 0 _ rfl
 clear hrow hall hx hy
 go_wp2_with (fail)
 go_ret
 exact ⟨rfl, HB5.out⟩
theorem rright_va (v : Va) (w : World) : Calls Try.prog 22 #[.agg (wcl v).toArray] w (Gives (.bool (rt v)) w) := by
 have h := rright_val v.k v.n v.x v.y (tx v.s) w
 simp only [tx_list] at h
 exact h
set_option maxRecDepth 100000 in
set_option maxHeartbeats 2000000 in
theorem rlright_any (A : Option Addr) (c : Nat) (l : List Pr) (w : World) (h : Prs w A l) (hl : l.length ≤ 100000) :
 Calls Try.prog 9 #[.slice A l.length c] w (Gives (.bool (rl l)) w) := by
 have HN := Lib.hid h
 clear h
 go_enter Try.func9, Try.ntmps9
 go_wp2_with (fail)
 go_loopg [3] l.length (fun kx s3 wr => ∃ i : Nat, i ≤ l.length ∧ l.length - i ≤ kx ∧ s3 = .int .i64 i ∧ Hid (∀ j, j < i → rp (pd l j) = true) ∧ Hid (Below w.heap.size w wr))
 case atStart => exact ⟨0, Nat.zero_le _, by omega, rfl, (fun j hj => absurd hj (Nat.not_lt_zero _)), Below.refl _ _⟩
 case round =>
  obtain ⟨i, hi, hkx, rfl, HR, HB⟩ := hrel
  by_cases hlt : i < l.length
  · have hltz : (i : Int) < (l.length : Int) := by omega
    have hN2 := HN.out.next HB.out
    obtain ⟨GA, OA, rfl⟩ := hN2.shape (by omega)
    have a0 := hN2.cell (i := i) hlt 0 _ rfl
    have a1 := hN2.cell (i := i) hlt 1 _ rfl
    have a2 := hN2.cell (i := i) hlt 2 _ rfl
    have a3 := hN2.cell (i := i) hlt 3 _ rfl
    have a4 := hN2.cell (i := i) hlt 4 _ rfl
    have a5 := hN2.cell (i := i) hlt 5 _ rfl
    rw [Nat.add_zero] at a0
    have hcall := rright_va (pd l i).2 wr
    unfold wcl at hcall
    have hsz : (tx (pd l i).1).size = (pd l i).1.length := tx_size _
    have HF : Hid (rp (pd l i) = false → rl l = false) := fun hb => by
     cases e : rl l with
     | false => rfl
     | true => have := (rl_iff l).1 e (pd l i) (pd_mem hlt); rw [hb] at this; cases this
    have HT : Hid (rp (pd l i) = true → ∀ j, j < i + 1 → rp (pd l j) = true) := fun hb j hj => by
     rcases Nat.lt_succ_iff_lt_or_eq.1 hj with h' | rfl
     · exact HR.out j h'
     · exact hb
    have HRP := Lib.hid (show rp (pd l i) = (decide ((pd l i).1.length ≤ 64) && rt (pd l i).2) from rfl)
    clear hN2
    generalize pd l i = p at *
    by_cases hk : p.1.length ≤ 64
    · have t1 : decide ((64 : Int) < ((tx p.1).size : Int)) = false := decide_eq_false (by rw [hsz]; omega)
      rw [decide_eq_true hk, Bool.true_and] at HRP
      clear hsz hk
      cases hr : rt p.2 with
      | false =>
        rw [hr] at hcall HRP
        generalize tx p.1 = s at *
        go_wp2_with (fail)
        refine hcall.mono ?_
        rintro e w2 ⟨rfl, hb⟩
        replace HB := Lib.hid (Below.next HB.out hb)
        clear hcall hb
        go_wp2_with (fail)
        go_ret
        exact ⟨by rw [HF.out HRP.out]; rfl, HB.out⟩
      | true =>
        rw [hr] at hcall HRP
        generalize tx p.1 = s at *
        go_wp2_with (fail)
        refine hcall.mono ?_
        rintro e w2 ⟨rfl, hb⟩
        replace HB := Lib.hid (Below.next HB.out hb)
        clear hcall hb
        go_wp2_with (fail)
        go_roundg (l.length - (i + 1))
        case measure => omega
        case rel => exact ⟨i + 1, by omega, Nat.le_refl _, by go_num, HT.out HRP.out, HB⟩
    · have t1 : decide ((64 : Int) < ((tx p.1).size : Int)) = true := decide_eq_true (by rw [hsz]; omega)
      rw [decide_eq_false hk, Bool.false_and] at HRP
      clear hsz hk hcall
      generalize tx p.1 = s at *
      go_wp2_with (fail)
      go_ret
      exact ⟨by rw [HF.out HRP.out]; rfl, HB.out⟩
  · obtain rfl : i = l.length := by omega
    have hltz : ¬ (l.length : Int) < (l.length : Int) := by omega
    have hall : rl l = true := (rl_iff l).2 fun p hp => by
     obtain ⟨j, hj, rfl⟩ := List.getElem_of_mem hp
     have e := HR.out j hj; rwa [pd_at hj] at e
    go_wp2_with (fail)
    go_ret
    exact ⟨rfl, HB.out⟩
theorem rsE_ch {room q j : Nat} {l : List Pr} (h1 : q * room ≤ l.length) (h2 : l.length < q * room + room) (hj1 : l.length ≤ j * room) (hj2 : ∀ m, m < j → m * room < l.length) : (List.range j).map (ch room l) = rsE room l q := by
 unfold rsE
 have hr : 0 < room := by omega
 by_cases e : l.length = q * room
 · have hjq : j = q := by
    have a : ¬ q < j := fun h => by have := hj2 q h; omega
    have b : q ≤ j := Nat.le_of_mul_le_mul_right (by rw [← e]; exact hj1) hr
    omega
   subst hjq
   rw [if_pos e, List.append_nil]
 · have hjq : j = q + 1 := by
    have a : ¬ q + 1 < j := fun h => by have := hj2 (q + 1) h; rw [Nat.add_mul, Nat.one_mul] at this; omega
    have b : q < j := Nat.lt_of_mul_lt_mul_right (a := room) (by omega)
    omega
   subst hjq
   rw [if_neg e, List.range_succ, List.map_append]
   simp only [List.map_cons, List.map_nil]
   unfold ch
   rw [List.take_of_length_le (l := l.drop (q * room)) (by rw [List.length_drop]; omega)]
def DRuns (rs : List (List Pr)) (w : World) (e : Ending) (w' : World) : Prop :=
 ∃ (v : Value) (qs : List Part), e = .returned v ∧ w'.ownsRow w.heap.size 22 1 v qs.length (qs.map pv) ∧ (∀ x ∈ qs, PIn w' x) ∧ qs.map (·.2.2) = rs ∧ Below w.heap.size w w'
structure RD (w wr : World) (room : Nat) (l : List Pr) (v : Value) (j : Nat) (qs : List Part) : Prop where
 len : qs.length = j
 row : wr.ownsRow w.heap.size 22 1 v j (qs.map pv)
 rs : qs.map (·.2.2) = (List.range j).map (ch room l)
 all : ∀ x ∈ qs, PIn wr x ∧ ∀ g o, x.1 = some ⟨g, o, none⟩ → v.ownBlock ≠ some g ∧ g < wr.heap.size
 lo : ∀ m, m < j → m * room < l.length
 b : Below w.heap.size w wr
theorem RD.more {w wr w2 w3 : World} {room : Nat} {l : List Pr} {v v' : Value} {j : Nat} {qs : List Part} (h : RD w wr room l v j qs) (x : Part) (hx : x.2.2 = ch room l j) (hlo : j * room < l.length) (hb : Below wr.heap.size wr w2) (hp : PIn w2 x) (hg : ∀ g o, x.1 = some ⟨g, o, none⟩ → wr.heap.size ≤ g ∧ g < w2.heap.size)
 (hrow : w3.ownsRow w.heap.size 22 1 v' (j + 1) (qs.map pv ++ [pv x])) (hgr : w2.grownBy w3 v.ownBlock) (hat : v'.ownBlock = v.ownBlock ∨ v'.ownBlock = some w2.heap.size) : RD w w3 room l v' (j + 1) (qs ++ [x]) := by
 have hk : Kp (fun b => v.ownBlock = some b) w2 w3 := (Kp.refl _ w2).grown hgr fun b e => .inl e
 have hz := hk.size
 have hs := h.b.size
 have hv : ∀ g, v'.ownBlock = some g → v.ownBlock = some g ∨ g = w2.heap.size := fun g e => by
  rcases hat with h | h
  · exact .inl (by rw [← h]; exact e)
  · rw [h] at e; injection e with e; exact .inr e.symm
 refine ⟨by rw [List.length_append, h.len]; rfl, by rw [List.map_append]; exact hrow, ?_, fun y hy => ?_, fun m hm => ?_, (Below.next h.b hb).trans (hk.below (fun b e => (own_lt h.row e).1) (Nat.le_trans hs hb.size))⟩
 · rw [List.map_append, List.range_succ, List.map_append, h.rs]
   simp only [List.map_cons, List.map_nil, hx]
 · rcases List.mem_append.1 hy with hy | hy
   · obtain ⟨h1, h2⟩ := h.all y hy
     refine ⟨(h1.next hb).kp hk fun g o e => (h2 g o e).1, fun g o e => ⟨fun e' => ?_, Nat.lt_of_lt_of_le (h2 g o e).2 (Nat.le_trans hb.size hz)⟩⟩
     rcases hv g e' with h | h
     · exact (h2 g o e).1 h
     · have := (h2 g o e).2; have := hb.size; omega
   · obtain rfl : y = x := by simpa using hy
     refine ⟨hp.kp hk fun g o e e' => ?_, fun g o e => ⟨fun e' => ?_, Nat.lt_of_lt_of_le (hg g o e).2 hz⟩⟩
     · have := (own_lt h.row e').2; have := (hg g o e).1; omega
     · rcases hv g e' with h' | h'
       · have := (own_lt h.row h').2; have := (hg g o e).1; omega
       · have := (hg g o e).2; omega
 · rcases Nat.lt_succ_iff_lt_or_eq.1 hm with h' | rfl
   · exact h.lo m h'
   · exact hlo
set_option maxRecDepth 100000 in
set_option maxHeartbeats 4000000 in
theorem rruns_any (A : Option Addr) (c : Nat) (l : List Pr) (room q : Nat) (w : World) (h : PIn w (A, c, l)) (hlc : l.length ≤ c) (hl : l.length ≤ 100000) (hr1 : 1 ≤ room) (hr2 : room ≤ 4096) (h1 : q * room ≤ l.length) (h2 : l.length < q * room + room) :
 Calls Try.prog 12 #[.slice A l.length c, .int .i64 room] w (DRuns (rsE room l q) w) := by
 have HN := Lib.hid h
 have HQ := Lib.hid (fun (j : Nat) (a : l.length ≤ j * room) (b : ∀ m, m < j → m * room < l.length) => rsE_ch h1 h2 a b)
 clear h h1 h2
 go_enter Try.func12, Try.ntmps12
 go_wp2_with (fail)
 go_loopg [5, 6] (l.length + room) (fun kx s5 s6 wr => ∃ (j i : Nat) (qs : List Part), i < l.length + room ∧ l.length + room - i ≤ kx ∧ Hid (i = j * room) ∧ s6 = .int .i64 i ∧ Hid (RD w wr room l s5 j qs))
 case atStart => exact ⟨0, 0, [], by omega, by omega, Lib.hid (Nat.zero_mul _).symm, rfl, ⟨rfl, World.ownsRow_nil _ _ _ _, rfl, (fun x hx => by cases hx), (fun m hm => absurd hm (Nat.not_lt_zero _)), Below.refl _ _⟩⟩
 case round =>
  obtain ⟨j, i, qs, hi, hkx, HIJ, rfl, HD⟩ := hrel
  by_cases hlt : i < l.length
  · have hltz : (i : Int) < (l.length : Int) := by omega
    have hN2 := HN.out.next HD.out.b
    obtain ⟨GA, OA, rfl⟩ := hN2.1.shape (by show 0 < l.length; omega)
    obtain ⟨m, hm⟩ : ∃ m, m = min (i + room) l.length := ⟨_, rfl⟩
    have hmz : min ((i : Int) + (room : Int)) (l.length : Int) = (m : Int) := by rw [hm]; simp only [Int.min_def, Nat.min_def]; split <;> split <;> omega
    have hmb : i < m ∧ m ≤ l.length := by rw [hm]; simp only [Nat.min_def]; split <;> omega
    have hml : ((l.drop i).take room).length = m - i := by rw [List.length_take, List.length_drop, hm]; simp only [Nat.min_def]; split <;> split <;> omega
    have hso := rsort_any (some ⟨GA, OA + i * 6, none⟩) (c - i) ((l.drop i).take room) wr (prs_take (prs_drop hN2.1 i) room) (by rw [hml]; omega)
    rw [hml] at hso
    have hci : ¬ c = i := by omega
    obtain ⟨Av, cv, e, _, _⟩ := own_slice HD.out.row
    subst e
    clear hm hN2
    go_wp2_with (fail)
    refine hso.mono ?_
    rintro e w2 ⟨v, rfl, hr, hb⟩
    obtain ⟨As, cs, rfl, hp⟩ := own_pin (l := sr ((l.drop i).take room)) (by rw [sr_len, hml]; exact hr)
    have hg : ∀ g o, As = some ⟨g, o, none⟩ → wr.heap.size ≤ g ∧ g < w2.heap.size := fun g o e => own_lt hr (by rw [e]; rfl)
    have HG := Lib.hid hg; have HP := Lib.hid hp; have HB2 := Lib.hid hb; have HML := Lib.hid hml
    obtain ⟨n, hn⟩ : ∃ n, n = (sr ((l.drop i).take room)).length := ⟨_, rfl⟩
    rw [← hn]
    have HNN := Lib.hid hn
    have HOW := Lib.hid (own_keep (own_keep HD.out.row hb) (box1 w2 (.cells #[.slice As n cs] 22)))
    obtain ⟨i1, hj0, hj1, hj2, hj3⟩ := info_parts infoL
    have HJ0 := Lib.hid hj0; have HJ1 := Lib.hid hj1; have HJ2 := Lib.hid hj2; have HJ3 := Lib.hid hj3
    have HJL : Hid (j ≤ 200000) := by
     have h1 := HIJ.out
     have h2 : j * 1 ≤ j * room := Nat.mul_le_mul_left _ hr1
     show j ≤ 200000; omega
    clear hj0 hj1 hj2 hj3 hg hp hb hr hso hml hn
    go_wp2_with (at_builtin; refine wpList_append_own_at _ rfl _ _ 38 rfl w.heap.size 22 i1 (.slice none 0 0) 1 24 Try.underlying38 HJ0.out HJ1.out HJ2.out HJ3.out rfl (by decide) _ _ _ rfl HOW.out ⟨w2.heap.size, 0, none⟩ 1 1 [.slice As n cs] rfl rfl ?c1 ?c2 ?c3 ?c4 ?c5 ?_)
    case c1 =>
     intro t u hj
     rw [Addr.add_lit, Nat.zero_add]
     exact (Blk.made w2 22 [.slice As n cs] rfl).c t u hj
    case c2 =>
     intro u hu
     obtain rfl : u = .slice As n cs := by simpa using hu
     rfl
    case c3 => have := HJL.out; unfold maxLen; omega
    case c4 => have := HJL.out; omega
    case c5 => have := HD.out.b.size; have := HB2.out.size; rw [World.size_alloc]; omega
    intro v' w3 hown' hgrow _ hat
    have HD3 : Hid (RD w w3 room l v' (j + 1) (qs ++ [(As, cs, sr ((l.drop i).take room))])) := by
     refine HD.out.more (w2 := w2.alloc (.cells #[.slice As n cs] 22)) (As, cs, sr ((l.drop i).take room)) ?_ (by rw [← HIJ.out]; exact hlt) (Below.next HB2.out (box1 w2 _)) (HP.out.next (box1 w2 _)) (fun g o e => ?_) ?_ hgrow (by rw [World.size_alloc]; exact hat)
     · unfold ch; rw [HIJ.out]
     · have := HG.out g o e; rw [World.size_alloc]; omega
     · unfold pv; rw [← HNN.out]; exact hown'
    have hw : IntKind.i64.wrap ((i : Int) + (room : Int)) = ((i + room : Nat) : Int) := by rw [IntKind.wrap_i64]; omega
    clear hown' hgrow hat HOW HP HG HB2 HD
    go_wp2_with (fail)
    go_roundg (l.length - i)
    case measure => omega
    case rel => exact ⟨j + 1, i + room, _, by omega, by omega, (by show i + room = (j + 1) * room; rw [HIJ.out, Nat.add_mul, Nat.one_mul]), by go_num, HD3⟩
  · have hltz : ¬ (i : Int) < (l.length : Int) := by omega
    go_wp2_with (fail)
    go_ret
    refine ⟨_, qs, rfl, by rw [HD.out.len]; exact HD.out.row, fun x hx => (HD.out.all x hx).1, by rw [HD.out.rs]; exact HQ.out j (by rw [← HIJ.out]; omega) HD.out.lo, HD.out.b⟩
structure RF (room : Nat) (l : List Pr) (rs : List (List Pr)) : Prop where
 od : ∀ r ∈ rs, Od r
 pos : ∀ r ∈ rs, 0 < r.length ∧ r.length ≤ room
 full : ∀ i r, rs[i]? = some r → i + 1 < rs.length → r.length = room
 all : rs.flatten.length = l.length
 ky : ∀ k, ky k rs.flatten = ky k l
theorem chunks (room : Nat) (l : List Pr) : ∀ q, q * room ≤ l.length → ((List.range q).map (ch room l)).flatten.length = q * room ∧ ∀ k, ky k ((List.range q).map (ch room l)).flatten = ky k (l.take (q * room)) := by
 intro q
 induction q with
 | zero => intro _; exact ⟨by simp, fun k => by simp⟩
 | succ q ih =>
   intro h
   rw [Nat.add_mul, Nat.one_mul] at h ⊢
   obtain ⟨h1, h2⟩ := ih (by omega)
   rw [List.range_succ, List.map_append, List.flatten_append]
   simp only [List.map_cons, List.map_nil, List.flatten_cons, List.flatten_nil, List.append_nil]
   refine ⟨?_, fun k => ?_⟩
   · rw [List.length_append, h1]
     unfold ch
     rw [sr_len, List.length_take, List.length_drop]; omega
   · rw [ky_append, h2 k]
     unfold ch
     rw [sr_ky, ← ky_append]
     congr 1
     rw [List.take_add]
theorem rsE_facts {room q : Nat} {l : List Pr} (h1 : q * room ≤ l.length) (h2 : l.length < q * room + room) (hr : 1 ≤ room) : RF room l (rsE room l q) := by
 have hch : ∀ i, i < q → (ch room l i).length = room := fun i hi => by
  unfold ch
  rw [sr_len, List.length_take, List.length_drop]
  have : (i + 1) * room ≤ q * room := Nat.mul_le_mul_right _ (by omega)
  rw [Nat.add_mul] at this
  omega
 have hlast : (l.drop (q * room)).length = l.length - q * room := List.length_drop ..
 obtain ⟨c1, c2⟩ := chunks room l q h1
 unfold rsE
 by_cases e : l.length = q * room
 · rw [if_pos e, List.append_nil]
   refine ⟨fun r hr => ?_, fun r hr' => ?_, fun i r hi hl => ?_, by rw [c1, e], fun k => by rw [c2, ← e, List.take_length]⟩
   · obtain ⟨i, _, rfl⟩ := List.mem_map.1 hr; exact sr_od _
   · obtain ⟨i, hi, rfl⟩ := List.mem_map.1 hr'
     have := hch i (by simpa using hi)
     omega
   · rw [List.getElem?_map] at hi
     simp only [List.length_map, List.length_range] at hl
     rw [List.getElem?_range (by omega)] at hi
     obtain rfl : ch room l i = r := by simpa using hi
     exact hch i (by omega)
 · rw [if_neg e]
   refine ⟨fun r hr => ?_, fun r hr' => ?_, fun i r hi hl => ?_, ?_, fun k => ?_⟩
   · rcases List.mem_append.1 hr with hr | hr
     · obtain ⟨i, _, rfl⟩ := List.mem_map.1 hr; exact sr_od _
     · obtain rfl : r = sr (l.drop (q * room)) := by simpa using hr
       exact sr_od _
   · rcases List.mem_append.1 hr' with hr' | hr'
     · obtain ⟨i, hi, rfl⟩ := List.mem_map.1 hr'
       have := hch i (by simpa using hi)
       omega
     · obtain rfl : r = sr (l.drop (q * room)) := by simpa using hr'
       rw [sr_len, hlast]; omega
   · simp only [List.length_append, List.length_map, List.length_range, List.length_cons, List.length_nil] at hl
     rw [List.getElem?_append_left (by simp; omega), List.getElem?_map, List.getElem?_range (by omega)] at hi
     obtain rfl : ch room l i = r := by simpa using hi
     exact hch i (by omega)
   · rw [List.flatten_append, List.length_append, c1]
     simp only [List.flatten_cons, List.flatten_nil, List.append_nil]
     rw [sr_len, hlast]; omega
   · rw [List.flatten_append, ky_append, c2]
     simp only [List.flatten_cons, List.flatten_nil, List.append_nil]
     rw [sr_ky, ← ky_append, List.take_append_drop]
theorem lln_row {w : World} {base c n : Nat} {A : Option Addr} {qs : List Part} (h : w.ownsRow base 22 1 (.slice A n c) n (qs.map pv)) (hn : n = qs.length) (hp : ∀ x ∈ qs, PIn w x) : LlN w A qs := fun i hi => by
 rcases h.2 with ⟨_, e0⟩ | ⟨g, cap, cur, e, _⟩
 · omega
 · injection e with e1 e2 e3
   subst e1
   refine ⟨g, 0, rfl, ?_, hp _ (qd_mem hi)⟩
   rw [Nat.zero_add, h.cellAt i (by omega)]
   unfold qd
   rw [List.getElem?_map, List.getElem?_eq_getElem hi]; rfl
def AllQ (l : List Pr) (w : World) (e : Ending) (w' : World) : Prop :=
 ∃ (bx : Nat) (A : Option Addr) (c : Nat) (qs : List Part), e = .returned (.func (.func 36) #[] #[.pointer (some ⟨bx, 0, none⟩)]) ∧ w.heap.size ≤ bx ∧ Blk w' bx [.slice A qs.length c] ∧ LlN w' A qs ∧ Rk qs c ∧ sr (rsOf qs).flatten = sr l ∧ Below w.heap.size w w'
theorem rk_runs {room : Nat} {qs : List Part} {rs : List (List Pr)} {l : List Pr} {c : Nat} (hc : qs.length ≤ c) (hall : ∀ x ∈ qs, x.2.2.length ≤ x.2.1) (hrs : qs.map (·.2.2) = rs) (hF : RF room l rs) (hX : Tx l) (hl : l.length ≤ 100000) : Rk qs c ∧ sr (rsOf qs).flatten = sr l := by
 have hlen : rs.length = qs.length := by rw [← hrs, List.length_map]
 have hsum : ∀ t : List (List Pr), (∀ r ∈ t, 0 < r.length) → t.length ≤ t.flatten.length := fun t => by
  induction t with
  | nil => intro _; simp
  | cons x t ih =>
    intro h
    have := ih fun r hr => h r (List.mem_cons_of_mem _ hr)
    have := h x (List.mem_cons_self ..)
    simp only [List.length_cons, List.flatten_cons, List.length_append]; omega
 have hk := hsum rs fun r hr => (hF.pos r hr).1
 have hmemr : ∀ r, r < qs.length → (qd qs r).2.2 ∈ rs := fun r hr => by rw [← hrs]; exact List.mem_map.2 ⟨_, qd_mem hr, rfl⟩
 have hsub : ∀ z, z ∈ rs.flatten → z ∈ l := fun z hz => by
  have e : ∀ m : List Pr, z ∈ m ↔ z ∈ ky z.1 m := fun m => by simp [ky]
  rw [e, ← hF.ky, ← e]; exact hz
 have hflat : ∀ r ∈ rs, r.length ≤ rs.flatten.length := fun r hr => by
  obtain ⟨s, t, rfl⟩ := List.append_of_mem hr
  rw [List.flatten_append, List.length_append, List.flatten_cons, List.length_append]; omega
 have hall' := hF.all
 refine ⟨⟨by omega, hc, fun r hr => ⟨by have := hflat _ (hmemr r hr); omega, hall _ (qd_mem hr)⟩, fun r hr z hz => hX z (hsub z (List.mem_flatten.2 ⟨_, hmemr r hr, hz⟩)), fun r hr => hF.od _ (hmemr r hr)⟩, ?_⟩
 have ers : rsOf qs = rs := hrs
 rw [ers]
 exact sr_uniq _ _ (sr_od _) fun k => by rw [sr_ky, hF.ky]
set_option maxHeartbeats 1000000 in
theorem all_any {lo b room q : Nat} {l : List Pr} {vi vl : Value} {ps : List Part} (w : World) (h : SS w lo b room l q vi vl ps) (hl : l.length ≤ 100000) (hr1 : 1 ≤ room) (hX : Tx l) :
 Calls Try.prog 15 #[.pointer (some ⟨b, 0, none⟩)] w (AllQ l w) := by
 have hend := ended_any w h hl hr1 hX
 have HF := Lib.hid (rsE_facts h.q1 h.q2 hr1)
 have HX := Lib.hid hX
 unfold EndQ at hend
 clear h hX
 go_enter Try.func15, Try.ntmps15
 go_wp2_with (fail)
 refine hend.mono ?_
 rintro e w1 ⟨v, qs, rfl, hrow, hall, hrs, hb⟩
 obtain ⟨A, c, rfl, hc, _⟩ := own_slice hrow
 have HK := Lib.hid (rk_runs hc (fun x hx => (hall x hx).2.1) hrs HF.out HX.out hl)
 have HL := Lib.hid (lln_row hrow rfl fun x hx => (hall x hx).1)
 have HB := Lib.hid hb
 clear hend hrow hall hrs hb hc
 go_wp2_with (fail)
 refine (merged_any A qs.length c w1).mono ?_
 rintro e w2 ⟨rfl, hk, hb⟩
 have HB2 := Lib.hid (Below.next HB.out hb)
 have HL2 := Lib.hid (HL.out.next hb)
 have HBK := Lib.hid hk
 clear hk hb
 go_wp2_with (fail)
 go_ret
 exact ⟨w1.heap.size, A, c, qs, rfl, HB.out.size, HBK.out, HL2.out, HK.out.1, HK.out.2, HB2.out⟩
end Go.Proofs.Ytamhfjlffacakaa.So

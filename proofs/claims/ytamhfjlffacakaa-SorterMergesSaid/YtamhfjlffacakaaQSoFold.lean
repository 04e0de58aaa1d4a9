/-
  A text of this claim: SoFold.
-/
import Derived.Test.YtamhfjlffacakaaQ5
import Derived.Test.YtamhfjlffacakaaQ1
import Derived.Sort.CutIn
namespace Go.Proofs.Ytamhfjlffacakaa.So
open Go.ChangeShapes Go.WideShapes Go.ChangeAt Go.RowKit Go.Sort Go.Shelf Go.Proofs Ov Va St Pr
structure FB where
 b3 : Nat
 b4 : Nat
 b5 : Nat
 b6 : Nat
 bx : Nat
 A1 : Option Addr
 c1 : Nat
def FB.all (q : FB) (b : Nat) : Prop := b = q.b3 ∨ b = q.b4 ∨ b = q.b5 ∨ b = q.b6 ∨ b = q.bx ∨ ∃ o, q.A1 = some ⟨b, o, none⟩
structure FI (w : World) (q : FB) (cw : ByteArray) (L : List Pr) (pre : List Gx) (O : Nat → Prop) (X : World) (v : Value) : Prop where
 h3 : Blk X q.b3 [.string cw]
 h4 : Blk X q.b4 [.slice none 0 0]
 h5 : Blk X q.b5 [.int .i64 0]
 h6 : Blk X q.b6 [v]
 hx : Blk X q.bx [.slice q.A1 L.length q.c1]
 hl : OwnL w.heap.size X q.A1 L
 row : X.ownsRow w.heap.size 35 6 v pre.length (pcells (om cw.data.toList pre))
 ok : ∀ x ∈ pre, (fg cw.data.toList x.2.2).2 = 0
 hv : ∀ g, v.ownBlock = some g → ¬ O g ∧ ¬ q.all g
 nO : ∀ b, q.all b → ¬ O b
 hO : ∀ b, O b → w.heap.size ≤ b ∧ b < X.heap.size
 b : Below w.heap.size w X
theorem FI.lt {w : World} {q : FB} {cw : ByteArray} {L : List Pr} {pre : List Gx} {O : Nat → Prop} {X : World} {v : Value} (h : FI w q cw L pre O X v) : ∀ b, q.all b → b < X.heap.size := fun b e => by
 rcases e with rfl | rfl | rfl | rfl | rfl | ⟨o, e⟩
 · exact h.h3.lt
 · exact h.h4.lt
 · exact h.h5.lt
 · exact h.h6.lt
 · exact h.hx.lt
 · exact h.hl.lt b o e
theorem FI.step {w : World} {q : FB} {cw : ByteArray} {L : List Pr} {pre : List Gx} {O O' : Nat → Prop} {X Y : World} {v : Value} (h : FI w q cw L pre O X v) (k : Kp O X Y) (ho : ∀ b, O' b → b < Y.heap.size ∧ (O b ∨ X.heap.size ≤ b)) : FI w q cw L pre O' Y v := by
 have hs := h.b.size
 have no : ∀ b, b < X.heap.size → ¬ O b → ¬ O' b := fun b hl hn e => by
  rcases (ho b e).2 with h | h
  · exact hn h
  · omega
 refine ⟨h.h3.kp k (h.nO _ (.inl rfl)), h.h4.kp k (h.nO _ (.inr (.inl rfl))), h.h5.kp k (h.nO _ (.inr (.inr (.inl rfl)))), h.h6.kp k (h.nO _ (.inr (.inr (.inr (.inl rfl))))), h.hx.kp k (h.nO _ (.inr (.inr (.inr (.inr (.inl rfl)))))),
  h.hl.kp k fun g o e => h.nO g (.inr (.inr (.inr (.inr (.inr ⟨o, e⟩))))), own_kp h.row k fun g e => (h.hv g e).1, h.ok, fun g e => ⟨no g (own_lt h.row e).2 (h.hv g e).1, (h.hv g e).2⟩, fun b e => no b (h.lt b e) (h.nO b e), fun b e => ⟨?_, (ho b e).1⟩, h.b.trans (k.below (fun b e => (h.hO b e).1) hs)⟩
 rcases (ho b e).2 with h' | h'
 · exact (h.hO b h').1
 · omega
def FoldN2 (cw : List UInt8) (l : List Pr) (er : Int) : Prop := FoldN cw l er ∧ ∃ (pre : List Gx) (x : Gx) (rest : List Pr), Took (sr l) (pre ++ [x]) rest ∧ (∀ y ∈ pre, (fg cw y.2.2).2 = 0) ∧ (fg cw x.2.2).2 = er
def FoldQ (cw : List UInt8) (l : List Pr) (w : World) (e : Ending) (w' : World) : Prop :=
 Below w.heap.size w w' ∧ ((∃ m v, e = .returned (.tuple #[v, .int .i64 0]) ∧ FoldY cw l m ∧ w'.ownsRow w.heap.size 35 6 v m.length (pcells m) ∧ m.length ≤ l.length) ∨ (∃ er, e = .returned (.tuple #[.slice none 0 0, .int .i64 er]) ∧ FoldN2 cw l er))
attribute [local go_sem] Oper.semAt_some
set_option maxRecDepth 100000 in
set_option maxHeartbeats 4000000 in
theorem sfold_any (A : Option Addr) (c : Nat) (l : List Pr) (cw : ByteArray) (w : World) (h : PIn w (A, c, l)) (hl : l.length ≤ 100000) (hX : Tx l) (hO : Od l) :
 Calls Try.prog 17 #[.slice A l.length c, .string cw] w (FoldQ cw.data.toList l w) := by
 have HI := Lib.hid h; have HX := Lib.hid hX; have HOD := Lib.hid hO
 clear h hX hO
 have H3 := Lib.hid (((Blk.made w 9 [.string cw] rfl).old (.cells #[.slice none 0 0] 22)).old (.cells #[.int .i64 0] 26))
 have H4 := Lib.hid ((Blk.made (w.alloc (.cells #[.string cw] 9)) 22 [.slice none 0 0] (World.size_alloc _ _)).old (.cells #[.int .i64 0] 26))
 have H5 := Lib.hid (Blk.made ((w.alloc (.cells #[.string cw] 9)).alloc (.cells #[.slice none 0 0] 22)) 26 [.int .i64 0] (by rw [World.size_alloc, World.size_alloc]))
 have HB := Lib.hid (box3 w (.cells #[.string cw] 9) (.cells #[.slice none 0 0] 22) (.cells #[.int .i64 0] 26))
 refine (callsIn_wide (n := 9)).1 ?_
 refine callsIn_of_wp_marks Try.func17 rfl trivial ?_ rfl
 simp only [Try.ntmps17, List.size_toArray, List.length_cons, List.length_nil, Nat.reduceAdd, Nat.reduceSub, Array.replicate_succ, Array.replicate_zero, List.push_toArray, List.append_toArray, List.nil_append, List.cons_append]
 gi_wp2
 generalize ((w.alloc (.cells #[.string cw] 9)).alloc (.cells #[.slice none 0 0] 22)).alloc (.cells #[.int .i64 0] 26) = w0 at *
 have hor := ordered_any A c l w0 (HI.out.next HB.out).1 (by omega)
 gi_wp2_with (refine ⟨trivial, ?_⟩; refine (callsIn_wide.2 hor).mono ?_; rintro e a1 ⟨q, rfl, hq, hb⟩; have hq' := hq.2 HOD.out; clear hq; subst hq'; replace H3 := Lib.hid (H3.out.next hb); replace H4 := Lib.hid (H4.out.next hb); replace H5 := Lib.hid (H5.out.next hb); replace HB := Lib.hid (Below.next HB.out hb); clear hb)
 clear hor
 have h5l := H5.out.lt
 have hb6 := box1 a1 (.cells #[.slice none 0 0] 22)
 have H6 := Lib.hid (Blk.made a1 22 [.slice none 0 0] rfl)
 replace H3 := Lib.hid (H3.out.next hb6); replace H4 := Lib.hid (H4.out.next hb6); replace H5 := Lib.hid (H5.out.next hb6); replace HB := Lib.hid (Below.next HB.out hb6)
 clear hb6
 generalize a1.alloc (.cells #[.slice none 0 0] 22) = w6 at *
 obtain ⟨b3, e3⟩ : ∃ b, b = w.heap.size := ⟨_, rfl⟩
 obtain ⟨b4, e4⟩ : ∃ b, b = w.heap.size + 1 := ⟨_, rfl⟩
 obtain ⟨b5, e5⟩ : ∃ b, b = w.heap.size + 1 + 1 := ⟨_, rfl⟩
 obtain ⟨b6, e6⟩ : ∃ b, b = a1.heap.size := ⟨_, rfl⟩
 rw [← e5, ← e4, ← e3, ← e6]
 rw [← e5] at H5 h5l
 rw [← e4] at H4
 rw [← e3] at H3
 rw [← e6] at H6 h5l
 have HN := Lib.hid (show b3 < b4 ∧ b4 < b5 ∧ b5 < b6 ∧ w.heap.size ≤ b3 by omega)
 clear e3 e4 e5 e6 h5l
 have hgr := groups_any A c l w6 (HI.out.next HB.out) (by omega) HX.out
 gi_wp2_with (refine ⟨trivial, ?_⟩; refine (callsIn_wide.2 hgr).mono ?_; rintro e w7 ⟨bx, A1, c1, rfl, hbx, hK, hc1, hO, hb⟩)
 clear hgr
 obtain ⟨Q, hQ⟩ : ∃ q : FB, q = ⟨b3, b4, b5, b6, bx, A1, c1⟩ := ⟨_, rfl⟩
 have hOw : OwnL w.heap.size w7 A1 (sr l) := by
  rcases hO with h | ⟨g, e, h1, h2, hh⟩
  · exact .inl h
  · exact .inr ⟨g, e, Nat.le_trans HB.out.size h1, h2, hh⟩
 have hA1 : ∀ g o, A1 = some ⟨g, o, none⟩ → w6.heap.size ≤ g := fun g o e => by
  rcases hO with ⟨_, h⟩ | ⟨g', e', h1, _, _⟩
  · rw [h] at e; cases e
  · rw [e'] at e; cases e; exact h1
 have H34L := Lib.hid (show b3 < w6.heap.size ∧ b4 < w6.heap.size ∧ b5 < w6.heap.size ∧ b6 < w6.heap.size from ⟨H3.out.lt, H4.out.lt, H5.out.lt, H6.out.lt⟩)
 have HW7 := Lib.hid hb.size
 have HBX := Lib.hid hbx
 have HA1 := Lib.hid hA1
 have HB7 := Lib.hid (Below.next HB.out hb)
 have HG0 : Hid (FI w Q cw (sr l) [] (fun _ => False) w7 (.slice none 0 0)) := by
  rw [hQ]
  exact ⟨H3.out.next hb, H4.out.next hb, H5.out.next hb, H6.out.next hb, hK, hOw, World.ownsRow_nil _ _ _ _, (fun x h => by cases h), (fun g e => by cases e), (fun b _ h => h), (fun b h => h.elim), HB7.out⟩
 have hlL : (sr l).length = l.length := sr_len l
 have HLL := Lib.hid hlL
 have HC1 := Lib.hid hc1
 have HTX : Hid (Tx (sr l)) := fun p hp => HX.out p ((sr_mem l p).1 hp)
 have HL := Lib.hid hl
 clear hc1 hlL hOw hA1 hK hO hb hbx H3 H4 H5 H6 HB hl
 refine wpIn_rngA (F := Fence.wide) (M := Mg bx A1 c1 (sr l)) (Fx := Fg (sr l)) (S := fun xs => Took (sr l) xs []) (Sp := fun pre => ∃ rest, Took (sr l) pre rest) rfl (by decide) (gf := 43) (lb := #[.pointer (some ⟨bx, 0, none⟩)]) rfl trivial (enters_of Try.func43 (by kernel_rfl) rfl)
  (groups1_its bx A1 c1 (sr l) (by rw [HLL.out]; have := HL.out; omega) HC1.out HTX.out 8).toO (fun _ => rfl)
  (fun pre O W => ∃ v, FI w Q cw (sr l) pre O W v) (fun _ W => ∃ er, FoldN2 cw.data.toList l er ∧ Blk W b4 [.slice none 0 0] ∧ Blk W b5 [.int .i64 er] ∧ Below w.heap.size w W)
  (fun s O O' X Y h k ho => by obtain ⟨v, h⟩ := h; exact ⟨v, h.step k ho⟩) (fun s O X h b hb => by obtain ⟨v, h⟩ := h; exact (h.hO b hb).2)
  (fun s X Y h k => by
    obtain ⟨er, h1, h2, h3, h4⟩ := h
    have a1 := H34L.out; have a2 := HW7.out
    exact ⟨er, h1, blk_upto h2 k (by omega), blk_upto h3 k (by omega), h4.trans (k.mono HB7.out.size)⟩)
  (fun s O X h => by obtain ⟨v, h⟩ := h; rw [hQ] at h; exact ⟨h.hx.c 0 _ rfl, h.hl.prs⟩) ⟨_, HG0.out⟩
  (fun pre x X l o o' h hl ho => ⟨fun i j v hi hv => cell_kept (h.1 i j v hi hv) (grownBy_putObj' X l o') (fun r e => by cases e; exact ⟨o, hl, ho⟩), h.2⟩)
  (fun x X => { tmps := #[.slice A l.length c, .string cw, undef, .pointer (some ⟨b3, 0, none⟩), .pointer (some ⟨b4, 0, none⟩), .pointer (some ⟨b5, 0, none⟩), .pointer (some ⟨b6, 0, none⟩), .string (tx x.1), .slice (some ⟨x.2.1, 0, none⟩) x.2.2.length x.2.2.length, undef, undef, .slice A l.length c, .bool true, .bool false, .slice A l.length c, .func (.func 43) #[] #[.pointer (some ⟨bx, 0, none⟩)], .string (tx x.1), .slice (some ⟨x.2.1, 0, none⟩) x.2.2.length x.2.2.length, undef, undef, undef, undef, undef, undef, undef, undef, undef, undef, undef, undef, undef, undef, undef, undef], defers := [] })
  (fun x X => X) (fun x X => Below.refl _ X) (fun pre x X h => h) ?assign ?body ?done ?stop
 case assign =>
  intro L x W K hK
  unfold enG
  gi_wp2
  exact hK
 case body =>
  rintro L pre ⟨xk, xg, xv⟩ O W V ⟨v, hI⟩ ⟨hv, rest, k, hT, hk, hx1, hx2⟩ hKW hltW
  have htk := took_at hT
  dsimp only at hv hx1 hx2 ⊢
  have hTs : Took (sr l) (pre ++ [(xk, xg, xv)]) (rest.drop k) := by rw [hx1, hx2]; exact Took.snoc hT hk
  have hlen : xv.length = k := by rw [hx2]; exact grp_len hk
  have hk0 := hk.1
  have hkl : k ≤ l.length := by
   have h1 := hk.2.1
   have h2 := congrArg List.length htk.1
   rw [List.length_drop, HLL.out] at h2
   omega
  have hll := HL.out
  have HTS := Lib.hid hTs
  have HPL := Lib.hid (show pre.length + 1 ≤ l.length by
   have h1 := pre_len hTs
   have h2 := (took_at hTs).2.1
   rw [List.length_append] at h1
   rw [HLL.out] at h2
   exact Nat.le_trans h1 h2)
  clear hx1 hx2 hTs htk hT hk
  obtain _ | ⟨v0, t⟩ := xv
  · simp at hlen; omega
  rw [List.length_cons] at hlen
  have hfg := foldGroup_any xg v0 t cw V hv (by omega)
  have HFG : Hid (fg cw.data.toList (v0 :: t) = fl cw.data.toList v0 t) := rfl
  generalize hre : fl cw.data.toList v0 t = re at *
  obtain ⟨rv, er⟩ := re
  dsimp only at hfg
  have HI2 := Lib.hid hI
  rw [hQ] at hI
  have c3 : V.cell? ⟨b3, 0, none⟩ = some (.string cw) := hI.h3.c 0 _ rfl
  clear hI hre hlen hk0 hkl hll hKW hltW hv
  rw [List.length_cons]
  obtain ⟨vk, vn, vs, vx, vy⟩ := rv
  unfold wcl at hfg
  dsimp only at hfg
  gi_upto_region 8 with (refine ⟨trivial, ?_⟩; refine (CallsIn.inRound L (callsIn_wide.2 hfg)).mono ?_; rintro e W1 ⟨rfl, hb⟩)
  clear hfg c3
  have hb2 := Below.next hb (box1 W1 (.cells #[.int .i64 vk, .int .i64 vn, .string (tx vs), .int .i64 vx, .int .i64 vy] 33))
  have h9 := Blk.made W1 33 [.int .i64 vk, .int .i64 vn, .string (tx vs), .int .i64 vx, .int .i64 vy] rfl
  have h9' : Blk (W1.alloc (.cells #[.int .i64 vk, .int .i64 vn, .string (tx vs), .int .i64 vx, .int .i64 vy] 33)) W1.heap.size [.int .i64 vk, .int .i64 vn, .string (tx vs), .int .i64 vx, .int .i64 vy] := h9
  have HI3 := Lib.hid (HI2.out.step (Below.kp O hb2) fun b e => ⟨Nat.lt_of_lt_of_le (HI2.out.hO b e).2 hb2.size, .inl e⟩)
  generalize W1.alloc (.cells #[.int .i64 vk, .int .i64 vn, .string (tx vs), .int .i64 vx, .int .i64 vy] 33) = W2 at *
  have HB2 := Lib.hid hb2
  have H9 := Lib.hid h9'
  have HNQ := Lib.hid HI2.out.nO
  have HOV := Lib.hid HI2.out.hO
  rw [hQ] at HNQ
  have hi := HI3.out
  rw [hQ] at hi
  have q0 := h9'.c 0 _ rfl; have q1 := h9'.c 1 _ rfl; have q2 := h9'.c 2 _ rfl; have q3 := h9'.c 3 _ rfl; have q4 := h9'.c 4 _ rfl
  have c4 := hi.h4.c 0 _ rfl; have c5 := hi.h5.c 0 _ rfl; have c6 := hi.h6.c 0 _ rfl
  have f4 := hi.h4.f 0 _ rfl; have f5 := hi.h5.f 0 _ rfl; have f6 := hi.h6.f 0 _ rfl
  dsimp only at c4 c5 c6 f4 f5 f6
  clear hb hb2 h9 h9'
  generalize W1.heap.size = b9 at *
  have HN' := HN.out
  have hn45 : b5 ≠ b4 := by omega
  have HN45 := Lib.hid hn45
  clear HN'
  by_cases h0 : er = 0
  · subst h0
    obtain ⟨Av, cv, e1, _, _⟩ := own_slice hi.row
    subst e1
    obtain ⟨i0, hi0, hi1, hi2, hi3⟩ := info_parts infoP
    have HI0' := Lib.hid hi0; have HI1 := Lib.hid hi1; have HI2' := Lib.hid hi2; have HI3' := Lib.hid hi3
    have HR := Lib.hid hi.row
    have HII := Lib.hid hi
    have hpl := HPL.out; have hll := HL.out
    have hplb : pre.length + 1 ≤ 100000 := by omega
    have HPB := Lib.hid hplb
    clear hi hi0 hi1 hi2 hi3 c4 c5 f4 f5 hn45 hpl hll hplb f6
    gi_wp2_with (gi_at_builtin; refine wpListIn_append_at _ rfl _ _ 22 rfl w.heap.size 35 i0 (.agg (pcl pz).toArray) 6 64 Try.underlying22 HI0'.out HI1.out HI2'.out HI3'.out rfl (by decide) _ _ _ rfl (own_keep HR.out (box1 W2 _)) _ 1 1 (pcl (xk, ⟨vk, vn, vs, vx, vy⟩)) rfl rfl ?c1 (pcl_one _) ?c3 ?c4 ?c5 ?_)
    case c1 =>
     intro j u hj
     rw [Addr.add_lit, Nat.zero_add]
     exact (Blk.made W2 35 (pcl (xk, ⟨vk, vn, vs, vx, vy⟩)) rfl).c j u hj
    case c3 => have := HPB.out; unfold maxLen; omega
    case c4 => have := HPB.out; omega
    case c5 => have := HII.out.b.size; rw [World.size_alloc]; omega
    intro v' w3 hown' hgrow hat
    have hi := HII.out
    have hn := HN.out
    have hb6l := H34L.out.2.2.2
    have k3 : Kp (fun b => (Value.slice Av pre.length cv).ownBlock = some b) W2 w3 := ((Kp.refl _ W2).alloc _).grown hgrow fun b e => .inl e
    have k4 : Kp (fun b => b = b6 ∨ (Value.slice Av pre.length cv).ownBlock = some b) W2 (w3.setCell ⟨b6, 0, none⟩ v') := (k3.mono fun b e => .inr e).setCell (b := b6) (.inl rfl) 0 v'
    have h6 := hi.h6.kp k3 fun e => (hi.hv b6 e).2 (.inr (.inr (.inr (.inl rfl))))
    have hv' : ∀ g, v'.ownBlock = some g → ¬ O g ∧ ¬ (FB.mk b3 b4 b5 b6 bx A1 c1).all g := fun g e => by
     rcases hat with h | h
     · exact hi.hv g (by rw [← h]; exact e)
     · rw [h] at e
       injection e with e
       have e : W2.heap.size + 1 = g := e
       refine ⟨fun h => ?_, fun h => ?_⟩
       · have := (hi.hO g h).2; omega
       · have := hi.lt g h; omega
    have hom : om cw.data.toList (pre ++ [(xk, xg, v0 :: t)]) = om cw.data.toList pre ++ [(xk, ⟨vk, vn, vs, vx, vy⟩)] := by
     rw [om_snoc]; dsimp only; rw [HFG.out]
    have hrow : (w3.setCell ⟨b6, 0, none⟩ v').ownsRow w.heap.size 35 6 v' (pre ++ [(xk, xg, v0 :: t)]).length (pcells (om cw.data.toList (pre ++ [(xk, xg, v0 :: t)]))) := by
     rw [hom, pcells_snoc, List.length_append]
     exact own_kp (O := fun b => b = b6) hown' ((Kp.refl (fun b => b = b6) w3).setCell (b := b6) rfl 0 _) fun g e h => (hv' g e).2 (.inr (.inr (.inr (.inl h))))
    have hfi : FI w Q cw (sr l) (pre ++ [(xk, xg, v0 :: t)]) O (w3.setCell ⟨b6, 0, none⟩ v') v' := by
     rw [hQ]
     refine ⟨hi.h3.kp k4 ?_, hi.h4.kp k4 ?_, hi.h5.kp k4 ?_, h6.set 0 v', hi.hx.kp k4 ?_, hi.hl.kp k4 ?_, hrow, ?_, hv', hi.nO, fun b e => ⟨(hi.hO b e).1, Nat.lt_of_lt_of_le (hi.hO b e).2 k4.size⟩, hi.b.trans (k4.below ?_ hi.b.size)⟩
     · intro e
       rcases e with e | e
       · dsimp only at e; omega
       · exact (hi.hv _ e).2 (.inl rfl)
     · intro e
       rcases e with e | e
       · dsimp only at e; omega
       · exact (hi.hv _ e).2 (.inr (.inl rfl))
     · intro e
       rcases e with e | e
       · dsimp only at e; omega
       · exact (hi.hv _ e).2 (.inr (.inr (.inl rfl)))
     · intro e
       have := HBX.out
       rcases e with e | e
       · dsimp only at e; omega
       · exact (hi.hv _ e).2 (.inr (.inr (.inr (.inr (.inl rfl)))))
     · intro g o ea e
       rcases e with e | e
       · have := HA1.out g o ea; omega
       · exact (hi.hv _ e).2 (.inr (.inr (.inr (.inr (.inr ⟨o, ea⟩)))))
     · intro x hx
       rcases List.mem_append.1 hx with h | h
       · exact hi.ok x h
       · rw [List.mem_singleton.1 h]; dsimp only; rw [HFG.out]
     · intro b e
       rcases e with e | e
       · omega
       · exact (own_lt hi.row e).1
    have HFIN : Hid (V.heap.size ≤ (w3.setCell ⟨b6, 0, none⟩ v').heap.size ∧ (∀ b, O b → b < V.heap.size → (w3.setCell ⟨b6, 0, none⟩ v').heap[b]? = V.heap[b]?) ∧ ∃ v, FI w Q cw (sr l) (pre ++ [(xk, xg, v0 :: t)]) O (w3.setCell ⟨b6, 0, none⟩ v') v) := by
     refine ⟨Nat.le_trans HB2.out.size k4.size, fun b hb hl => (k4.block b (Nat.lt_of_lt_of_le hl HB2.out.size) fun e => ?_).trans (HB2.out.block b hl), _, hfi⟩
     rcases e with e | e
     · exact HNQ.out b6 (.inr (.inr (.inr (.inl rfl)))) (e ▸ hb)
     · exact (hi.hv b e).1 hb
    have c3 := h6.c 0 _ rfl
    have f3 := h6.f 0 _ rfl
    dsimp only at c3 f3
    have HS3 : Hid (∃ A3 n3 c3, v' = .slice A3 n3 c3) := by
     obtain ⟨A3, c3, e, _⟩ := own_slice hown'
     exact ⟨A3, _, c3, e⟩
    clear hi hn hb6l k3 k4 h6 hv' hom hrow hfi hown' hgrow hat c6 q0 q1 q2 q3 q4
    obtain ⟨A3, n3, c3', rfl⟩ := HS3.out
    gi_wp2
    exact HFIN.out
  · have hez : (er == 0) = false := by simpa using h0
    have hE : FoldN2 cw.data.toList l er := by
     refine ⟨?_, pre, _, _, HTS.out, hi.ok, by dsimp only; rw [HFG.out]⟩
     have h1 := fold_no HTS.out (w := cw.data.toList) (by dsimp only; rw [HFG.out]; exact h0)
     dsimp only at h1
     rw [HFG.out] at h1
     exact h1
    have HE := Lib.hid hE
    have g5 := (hi.h5.put (Ne.symm hn45) 0 (.slice none 0 0))
    have d5 := g5.c 0 _ rfl; have e5 := g5.f 0 _ rfl
    dsimp only at d5 e5
    have k2 : Kp (fun b => b = b4 ∨ b = b5) V ((W2.setCell ⟨b4, 0, none⟩ (.slice none 0 0)).setCell ⟨b5, 0, none⟩ (.int .i64 er)) := ((Below.kp _ HB2.out).setCell (b := b4) (.inl rfl) 0 _).setCell (b := b5) (.inr rfl) 0 _
    have HK2 := Lib.hid k2
    have hF : V.heap.size ≤ ((W2.setCell ⟨b4, 0, none⟩ (.slice none 0 0)).setCell ⟨b5, 0, none⟩ (.int .i64 er)).heap.size ∧ (∀ b, O b → b < V.heap.size → ((W2.setCell ⟨b4, 0, none⟩ (.slice none 0 0)).setCell ⟨b5, 0, none⟩ (.int .i64 er)).heap[b]? = V.heap[b]?) ∧
     ∃ er2, FoldN2 cw.data.toList l er2 ∧ Blk ((W2.setCell ⟨b4, 0, none⟩ (.slice none 0 0)).setCell ⟨b5, 0, none⟩ (.int .i64 er)) b4 [.slice none 0 0] ∧ Blk ((W2.setCell ⟨b4, 0, none⟩ (.slice none 0 0)).setCell ⟨b5, 0, none⟩ (.int .i64 er)) b5 [.int .i64 er2] ∧ Below w.heap.size w ((W2.setCell ⟨b4, 0, none⟩ (.slice none 0 0)).setCell ⟨b5, 0, none⟩ (.int .i64 er)) := by
     have hn := HN.out
     refine ⟨k2.size, fun b hb hl => k2.block b hl fun e => ?_, er, hE, (hi.h4.set 0 _).put (by omega) 0 _, g5.set 0 _, (hi.b.setCell (p := ⟨b4, 0, none⟩) (by dsimp only; omega) _).setCell (p := ⟨b5, 0, none⟩) (by dsimp only; omega) _⟩
     rcases e with rfl | rfl
     · exact HNQ.out _ (.inr (.inl rfl)) hb
     · exact HNQ.out _ (.inr (.inr (.inl rfl))) hb
    have HF := Lib.hid hF
    clear k2 hE hF g5 hi q0 q1 q2 q3 q4 c5 c6 f5 f6 h0
    gi_wp2
    exact HF.out
 case done =>
  rintro D xs O W hD hS ⟨v, hI⟩ hd
  rw [hQ] at hI
  have hn := HN.out
  obtain ⟨Av, cv, e1, _, _⟩ := own_slice hI.row
  subst e1
  have hn45 : b4 ≠ b5 := by omega
  have c6 := hI.h6.c 0 _ rfl; have c4 := hI.h4.c 0 _ rfl; have f4 := hI.h4.f 0 _ rfl
  have g5 := hI.h5.put (c := b4) hn45 0 (.slice Av xs.length cv)
  have c5 := g5.c 0 _ rfl; have f5 := g5.f 0 _ rfl
  dsimp only at c6 c4 f4 c5 f5
  have z4 := ((hI.h4.set 0 (.slice Av xs.length cv)).put (c := b5) (Ne.symm hn45) 0 (.int .i64 0)).c 0 _ rfl
  have z5 := (g5.set 0 (.int .i64 0)).c 0 _ rfl
  have hDD := Nat.le_trans HB7.out.size hD
  have hne4 : D ≠ b4 := by have := H34L.out; have := HW7.out; omega
  have hne5 : D ≠ b5 := by have := H34L.out; have := HW7.out; omega
  have hK' : ((W.setCell ⟨b4, 0, none⟩ (.slice Av xs.length cv)).setCell ⟨b5, 0, none⟩ (.int .i64 0)).heap[D]? = some (.deferred (some [])) := (Below.heap_setCell _ _ _ _ hne5).trans ((Below.heap_setCell _ _ _ _ hne4).trans hd)
  have z4' := cell_kept z4 (grownBy_putObj' _ D (.deferred none)) (fun r e => by cases e; exact ⟨_, hK', rfl⟩)
  have z5' := cell_kept z5 (grownBy_putObj' _ D (.deferred none)) (fun r e => by cases e; exact ⟨_, hK', rfl⟩)
  have hkp : Kp (fun b => b = b4 ∨ b = b5 ∨ b = D) W (((W.setCell ⟨b4, 0, none⟩ (.slice Av xs.length cv)).setCell ⟨b5, 0, none⟩ (.int .i64 0)).putObj D (.deferred none)) :=
   (((Kp.refl _ W).setCell (b := b4) (.inl rfl) 0 (.slice Av xs.length cv)).setCell (b := b5) (.inr (.inl rfl)) 0 _).trans (Kp.putObj _ D _ (.inr (.inr rfl))) fun b e => .inl e
  have hrow : (((W.setCell ⟨b4, 0, none⟩ (.slice Av xs.length cv)).setCell ⟨b5, 0, none⟩ (.int .i64 0)).putObj D (.deferred none)).ownsRow w.heap.size 35 6 (.slice Av xs.length cv) xs.length (pcells (om cw.data.toList xs)) := own_kp hI.row hkp fun g e h => by
   rcases h with h | h | h
   · exact (hI.hv g e).2 (.inr (.inl h))
   · exact (hI.hv g e).2 (.inr (.inr (.inl h)))
   · subst h
     rcases hI.row.2 with ⟨h1, _⟩ | ⟨g', cap, cur, h1, _, hc, _⟩
     · injection h1 with h1 _ _; subst h1; cases e
     · injection h1 with h1 _ _; subst h1
       have e' : some g' = some g := e
       injection e' with e'
       subst e'
       rw [hd] at hc; cases hc
  have hlen : (om cw.data.toList xs).length = xs.length := by unfold om; rw [List.length_map]
  have hrow' : (((W.setCell ⟨b4, 0, none⟩ (.slice Av xs.length cv)).setCell ⟨b5, 0, none⟩ (.int .i64 0)).putObj D (.deferred none)).ownsRow w.heap.size 35 6 (.slice Av xs.length cv) (om cw.data.toList xs).length (pcells (om cw.data.toList xs)) := by rw [hlen]; exact hrow
  have hbe : Below w.heap.size w (((W.setCell ⟨b4, 0, none⟩ (.slice Av xs.length cv)).setCell ⟨b5, 0, none⟩ (.int .i64 0)).putObj D (.deferred none)) := hI.b.trans (hkp.below (fun b e => by rcases e with e | e | e <;> omega) hI.b.size)
  have hml : (om cw.data.toList xs).length ≤ l.length := by
   have h1 := pre_len hS; have h2 := (took_at hS).2.1; have h3 := HLL.out; omega
  have HF : Hid (FoldQ cw.data.toList l w (.returned (.tuple #[.slice Av xs.length cv, .int .i64 0])) (((W.setCell ⟨b4, 0, none⟩ (.slice Av xs.length cv)).setCell ⟨b5, 0, none⟩ (.int .i64 0)).putObj D (.deferred none))) := ⟨hbe, .inl ⟨_, _, rfl, fold_yes hS hI.ok, hrow', hml⟩⟩
  have HK' := Lib.hid hK'; have HZ4 := Lib.hid z4'; have HZ5 := Lib.hid z5'
  clear hS hI hd hn hn45 g5 z4 z5 hDD hne4 hne5 hK' z4' z5' hkp hrow hrow' hlen hbe hml hD
  gi_wp2
  refine ⟨by simp, .inl ⟨D, _, rfl, run_takeDeferred HK'.out, ?_⟩⟩
  have z4'' := HZ4.out
  have z5'' := HZ5.out
  exact ⟨.tuple #[.slice Av xs.length cv, .int .i64 0], by simp [results, Try.results17, go_sem, z4'', z5''], HF.out⟩
 case stop =>
  rintro D pre W hD _ ⟨er, he, h4, h5, hbw⟩ hK
  have c4 : W.cell? ⟨b4, 0, none⟩ = some (.slice none 0 0) := h4.c 0 _ rfl
  have c5 : W.cell? ⟨b5, 0, none⟩ = some (.int .i64 er) := h5.c 0 _ rfl
  have HK' := Lib.hid hK; have HBS := Lib.hid hbw; have HC4 := Lib.hid c4; have HC5 := Lib.hid c5; have HE := Lib.hid he
  have hDD := Lib.hid (Nat.le_trans HB7.out.size hD)
  clear hK hbw c4 c5 h4 h5 hD
  gi_wp2
  refine ⟨by simp, .inl ⟨D, _, rfl, run_takeDeferred HK'.out, ?_⟩⟩
  have c4'' := cell_kept HC4.out (grownBy_putObj' _ D (.deferred none)) (fun r e => by cases e; exact ⟨_, HK'.out, rfl⟩)
  have c5'' := cell_kept HC5.out (grownBy_putObj' _ D (.deferred none)) (fun r e => by cases e; exact ⟨_, HK'.out, rfl⟩)
  exact ⟨.tuple #[.slice none 0 0, .int .i64 er], by simp [results, Try.results17, go_sem, c4'', c5''], HBS.out.trans (below_put _ hDD.out HBS.out.size), .inr ⟨er, rfl, HE.out⟩⟩
end Go.Proofs.Ytamhfjlffacakaa.So

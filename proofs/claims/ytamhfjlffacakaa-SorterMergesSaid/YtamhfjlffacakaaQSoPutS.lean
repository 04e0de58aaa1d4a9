/-
  A text of this claim: SoPutS.
-/
import Derived.Test.YtamhfjlffacakaaQ5
import Derived.Maps.AppendAt
import Derived.Deep.Cut
namespace Go.Proofs.Ytamhfjlffacakaa.So
open Go.ChangeShapes Go.WideShapes Go.ChangeAt Go.RowKit Go.Sort Go.Shelf Go.Proofs Ov Va St Pr
def sA (b : Nat) (vi vl : Value) (ps : List Part) (c : Nat) : Prop := sO b vi vl c ∨ ∃ x ∈ ps, ∃ o, x.1 = some ⟨c, o, none⟩
theorem prs_made (w : World) (p : Pr) : Prs (w.alloc (.cells (pcl p).toArray 35)) (some ⟨w.heap.size, 0, none⟩) [p] := fun _ => ⟨w.heap.size, 0, rfl, fun i j v hi hv => by
 obtain rfl : i = 0 := by simpa using hi
 have := (Blk.made w 35 (pcl p) rfl).c j v hv
 rw [Nat.zero_mul, Nat.zero_add]; simpa using this⟩
theorem prs_own {w : World} {lo n c : Nat} {A : Option Addr} {l : List Pr} (h : w.ownsRow lo 35 6 (.slice A n c) n (pcells l)) (hn : n = l.length) : Prs w A l := fun hl => by
 rcases h.2 with ⟨e, e2⟩ | ⟨g, cap, cur, e, _⟩
 · omega
 · injection e with e1 e2 e3
   subst e1
   refine ⟨g, 0, rfl, fun i j v hi hv => ?_⟩
   have hj : j < 6 := (List.getElem?_eq_some_iff.1 hv).1
   rw [Nat.zero_add, h.cellAt _ (by omega), pcells_at l i j hi hj]
   exact hv
theorem own_shape' {w : World} {base size n : Nat} {e : TypeId} {v : Value} {xs : List Value} (h : w.ownsRow base e size v (n + 1) xs) : ∃ g c, v = .slice (some ⟨g, 0, none⟩) (n + 1) c := by
 rcases h.2 with ⟨_, h0⟩ | ⟨g, cap, cur, e, _⟩
 · omega
 · exact ⟨g, cap, e⟩
theorem infoL : (Try.prog.info? 22).map (fun i => (i.zero, i.size, i.bytes)) = some (some (.slice none 0 0), 1, 24) := by kernel_rfl
def PutS (lo b room : Nat) (l : List Pr) (p : Pr) (vi vl : Value) (ps : List Part) (w : World) (e : Ending) (w' : World) : Prop :=
 e = .returned (.int .i64 0) ∧ ∃ q' vi' vl' ps', SS w' lo b room (l ++ [p]) q' vi' vl' ps' ∧ Kp (sO b vi vl) w w' ∧ ∀ c, sA b vi' vl' ps' c → sA b vi vl ps c ∨ w.heap.size ≤ c
theorem SS.more {w w' : World} {lo b room q g c' : Nat} {l : List Pr} {vi vl : Value} {ps : List Part} (h : SS w lo b room l q vi vl ps) (p : Pr) (hne : l.length - q * room + 1 ≠ room)
 (hB : Blk w' b [.int .i64 room, .slice (some ⟨g, 0, none⟩) (l.length - q * room + 1) c', vl]) (hR : w'.ownsRow lo 35 6 (.slice (some ⟨g, 0, none⟩) (l.length - q * room + 1) c') (l.length - q * room + 1) (pcells (l.drop (q * room) ++ [p])))
 (hk : Kp (fun c => c = b ∨ vi.ownBlock = some c) w w') (hg : g ≠ b ∧ (vi.ownBlock = some g ∨ w.heap.size ≤ g)) : SS w' lo b room (l ++ [p]) q (.slice (some ⟨g, 0, none⟩) (l.length - q * room + 1) c') vl ps ∧
   ∀ c, sA b (.slice (some ⟨g, 0, none⟩) (l.length - q * room + 1) c') vl ps c → sA b vi vl ps c ∨ w.heap.size ≤ c := by
 have h1 := h.q1; have h2 := h.q2
 have hl : (l ++ [p]).length = l.length + 1 := by simp
 have hv : ∀ x, (Value.slice (some ⟨g, 0, none⟩) (l.length - q * room + 1) c').ownBlock = some x → x = g := fun x e => by
  have e' : some g = some x := e
  injection e' with e'; exact e'.symm
 refine ⟨⟨by omega, by omega, hB, ?_, own_kp h.d hk fun x e hx => ?_, by rw [chs_more p h1]; exact h.p, fun x hx => ⟨(h.o x hx).1.kp hk fun y o e hy => ?_, (h.o x hx).2⟩, h.lo, fun e => hg.1 (hv b e).symm, h.n2, fun x e => ?_, fun x hx y o e => ?_⟩, fun c hc => ?_⟩
 · rw [hl, List.drop_append_of_le_length h1, show l.length + 1 - q * room = l.length - q * room + 1 by omega]; exact hR
 · rcases hx with hx | hx
   · subst hx; exact h.n2 e
   · exact h.n3 x hx e
 · have := h.n4 x hx y o e
   rcases hy with hy | hy
   · exact this.1 hy
   · exact this.2.1 hy
 · obtain rfl := hv x e
   rcases hg.2 with hx | hx
   · exact h.n3 x hx
   · intro hy; have := (own_lt h.d hy).2; omega
 · have hn := h.n4 x hx y o e
   refine ⟨hn.1, fun hy => ?_, hn.2.2⟩
   obtain rfl := hv y hy
   rcases hg.2 with hx | hx'
   · exact hn.2.1 hx
   · have := (h.o x hx).1.lt y o e; omega
 · rcases hc with (hc | hc | hc) | hc
   · exact .inl (.inl (.inl hc))
   · obtain rfl := hv c hc
     rcases hg.2 with hx | hx
     · exact .inl (.inl (.inr (.inl hx)))
     · exact .inr hx
   · exact .inl (.inl (.inr (.inr hc)))
   · exact .inl (.inr hc)
theorem SS.full {w w' : World} {lo b room q g c' : Nat} {l : List Pr} {vi vl : Value} {ps : List Part} (h : SS w lo b room l q vi vl ps) (p : Pr) (he : l.length - q * room + 1 = room) (x : Part) (hx : x.2.2 = sr (l.drop (q * room) ++ [p]))
 (hB : Blk w' b [.int .i64 room, .slice none 0 0, .slice (some ⟨g, 0, none⟩) (q + 1) c']) (hR : w'.ownsRow lo 22 1 (.slice (some ⟨g, 0, none⟩) (q + 1) c') (q + 1) (ps.map pv ++ [pv x]))
 (hk : Kp (sO b vi vl) w w') (hg : g ≠ b ∧ (vl.ownBlock = some g ∨ w.heap.size ≤ g)) (hO : OwnL w.heap.size w' x.1 x.2.2 ∧ (x.1 = none → x.2.2 = [] ∧ x.2.1 = 0) ∧ x.2.2.length ≤ x.2.1) (hxg : ∀ y o, x.1 = some ⟨y, o, none⟩ → y ≠ g) (hlo : lo ≤ w.heap.size) :
 SS w' lo b room (l ++ [p]) (q + 1) (.slice none 0 0) (.slice (some ⟨g, 0, none⟩) (q + 1) c') (ps ++ [x]) ∧
  ∀ c, sA b (.slice none 0 0) (.slice (some ⟨g, 0, none⟩) (q + 1) c') (ps ++ [x]) c → sA b vi vl ps c ∨ w.heap.size ≤ c := by
 have h1 := h.q1; have h2 := h.q2
 have hl : (l ++ [p]).length = l.length + 1 := by simp
 have hq : (q + 1) * room = q * room + room := by rw [Nat.add_mul, Nat.one_mul]
 have hv : ∀ z, (Value.slice (some ⟨g, 0, none⟩) (q + 1) c').ownBlock = some z → z = g := fun z e => by
  have e' : some g = some z := e
  injection e' with e'; exact e'.symm
 have hxl : ∀ y o, x.1 = some ⟨y, o, none⟩ → w.heap.size ≤ y := fun y o e => by
  rcases hO.1 with ⟨_, e1⟩ | ⟨g', e1, h3, _⟩
  · rw [e1] at e; cases e
  · rw [e1] at e
    injection e with e
    injection e with e
    omega
 refine ⟨⟨by omega, by omega, hB, ?_, by simpa using hR, ?_, fun z hz => ?_, h.lo, (fun e => by cases e), fun e => hg.1 (hv b e).symm, (fun _ e => by cases e), fun z hz y o e => ?_⟩, fun c hc => ?_⟩
 · rw [List.drop_of_length_le (by omega), show (l ++ [p]).length - (q + 1) * room = 0 by omega]
   exact World.ownsRow_nil _ _ _ _
 · rw [List.map_append, List.range_succ, List.map_append, chs_more p h1, h.p]
   simp only [List.map_cons, List.map_nil, hx]
   rw [ch_last p h1 he]
 · rcases List.mem_append.1 hz with hz | hz
   · refine ⟨(h.o z hz).1.kp hk fun y o e hy => ?_, (h.o z hz).2⟩
     have := h.n4 z hz y o e
     rcases hy with hy | hy | hy
     · exact this.1 hy
     · exact this.2.1 hy
     · exact this.2.2 hy
   · obtain rfl : z = x := by simpa using hz
     exact ⟨hO.1.lower hlo, hO.2⟩
 · rcases List.mem_append.1 hz with hz | hz
   · have hn := h.n4 z hz y o e
     refine ⟨hn.1, (fun hy => by cases hy), fun hy => ?_⟩
     obtain rfl := hv y hy
     rcases hg.2 with hx' | hx'
     · exact hn.2.2 hx'
     · have := (h.o z hz).1.lt y o e; omega
   · obtain rfl : z = x := by simpa using hz
     have h5 := hxl y o e
     have h6 := h.h.lt
     exact ⟨by omega, (fun hy => by cases hy), fun hy => hxg y o e (hv y hy)⟩
 · rcases hc with (hc | hc | hc) | ⟨z, hz, o, hc⟩
   · exact .inl (.inl (.inl hc))
   · cases hc
   · obtain rfl := hv c hc
     rcases hg.2 with hx' | hx'
     · exact .inl (.inl (.inr (.inr hx')))
     · exact .inr hx'
   · rcases List.mem_append.1 hz with hz | hz
     · exact .inl (.inr ⟨z, hz, o, hc⟩)
     · obtain rfl : z = x := by simpa using hz
       exact .inr (hxl c o hc)
set_option maxHeartbeats 1000000 in
set_option maxRecDepth 100000 in
theorem put_no {b : Nat} (p : Pr) (w : World) (hp : rl [p] = false) : Calls Try.prog 8 #[.pointer (some ⟨b, 0, none⟩), .agg (pcl p).toArray] w (Gives (.int .i64 1) w) := by
 have hb1 := box1 w (.cells (pcl p).toArray 35)
 have hb2 := box2 w (.cells (pcl p).toArray 35) (.cells (pcl p).toArray 35)
 have hr := pright_any (some ⟨w.heap.size + 1, 0, none⟩) 1 [p] ((w.alloc (.cells (pcl p).toArray 35)).alloc (.cells (pcl p).toArray 35)) (by have := prs_made (w.alloc (.cells (pcl p).toArray 35)) p; rwa [World.size_alloc] at this) (by simp)
 rw [hp] at hr
 have HB := Lib.hid hb2
 clear hb1 hb2
 unfold pcl at *
 go_enter Try.func8, Try.ntmps8
 go_wp2_with (fail)
 refine hr.mono ?_
 rintro e w1 ⟨rfl, hb⟩
 have HB2 := Lib.hid (Below.next HB.out hb)
 clear hr hb
 go_wp2_with (fail)
 go_ret
 exact ⟨rfl, HB2.out⟩
set_option maxHeartbeats 4000000 in
set_option maxRecDepth 100000 in
theorem put_yes {lo b room q : Nat} {l : List Pr} {vi vl : Value} {ps : List Part} (p : Pr) (w : World) (h : SS w lo b room l q vi vl ps) (hp : rl [p] = true) (hl : l.length ≤ 100000) (hr1 : 1 ≤ room) (hr2 : room ≤ 4096) (hX : Tx (l ++ [p])) (hlo : lo ≤ w.heap.size) :
 Calls Try.prog 8 #[.pointer (some ⟨b, 0, none⟩), .agg (pcl p).toArray] w (PutS lo b room l p vi vl ps w) := by
 have hb1 := box1 w (.cells (pcl p).toArray 35)
 have hx1 := Blk.made w 35 (pcl p) rfl
 have hb2 := box2 w (.cells (pcl p).toArray 35) (.cells (pcl p).toArray 35)
 have hr := pright_any (some ⟨w.heap.size + 1, 0, none⟩) 1 [p] ((w.alloc (.cells (pcl p).toArray 35)).alloc (.cells (pcl p).toArray 35)) (by have := prs_made (w.alloc (.cells (pcl p).toArray 35)) p; rwa [World.size_alloc] at this) (by simp)
 rw [hp] at hr
 have hpx := hX p (by simp)
 have HS := Lib.hid h; have HX := Lib.hid hX
 have HB := Lib.hid hb2; have HX1 := Lib.hid (hx1.old (.cells (pcl p).toArray 35))
 have HOP := Lib.hid (fun W => ownPair_any p W hpx.1 hpx.2)
 clear hb1 hb2 h hX hpx hx1
 obtain ⟨pk, pv⟩ := p
 obtain ⟨vk, vn, vs, vx, vy⟩ := pv
 unfold pcl at hr HB HX1 HOP ⊢
 dsimp only at hr HB HX1 HOP ⊢
 go_enter Try.func8, Try.ntmps8
 go_wp2_with (fail)
 refine hr.mono ?_
 rintro e w1 ⟨rfl, hb⟩
 have HB1 := Lib.hid (Below.next HB.out hb)
 have HX2 := Lib.hid (HX1.out.next hb)
 clear hr hb HB HX1
 have HS1 := Lib.hid (HS.out.next HB1.out)
 obtain ⟨A, cA, e1, hAc, hAn⟩ := own_slice HS.out.i
 obtain ⟨L, cL, e2, hLc, hLn⟩ := own_slice HS.out.d
 obtain ⟨n, hn⟩ : ∃ n, n = l.length - q * room := ⟨_, rfl⟩
 have HN := Lib.hid hn
 subst e1
 subst e2
 obtain ⟨i0, hi0, hi1, hi2, hi3⟩ := info_parts infoP
 have HI0 := Lib.hid hi0; have HI1 := Lib.hid hi1; have HI2 := Lib.hid hi2; have HI3 := Lib.hid hi3
 have HOW0 : Hid (w1.ownsRow lo 35 6 (.slice A n cA) n (pcells (l.drop (q * room)))) := by rw [HN.out]; exact HS1.out.i
 have hbl := HS1.out.h
 rw [← hn] at hbl
 have HBL := Lib.hid hbl
 have HNO : Hid ((Value.slice A n cA).ownBlock ≠ some b) := by rw [HN.out]; exact HS.out.n1
 have hn4 : n ≤ 100000 := by omega
 have HBLT := Lib.hid HS.out.h.lt
 clear hi0 hi1 hi2 hi3 hbl hn
 have c1 := HBL.out.c 1 _ rfl
 have x0 := HX2.out.c 0 _ rfl; have x1 := HX2.out.c 1 _ rfl; have x2 := HX2.out.c 2 _ rfl; have x3 := HX2.out.c 3 _ rfl; have x4 := HX2.out.c 4 _ rfl; have x5 := HX2.out.c 5 _ rfl
 have HZ1 := Lib.hid (Nat.le_trans hlo HB1.out.size)
 go_upto_region 3 with fail
 go_cut [21] from 13 to 23 (fun s21 wx => ∃ g c', s21 = .slice (some ⟨g, 0, none⟩) (n + 1) c' ∧ Hid (Blk wx b [.int .i64 room, .slice (some ⟨g, 0, none⟩) (n + 1) c', .slice L q cL]) ∧ Hid (wx.ownsRow lo 35 6 (.slice (some ⟨g, 0, none⟩) (n + 1) c') (n + 1) (pcells (l.drop (q * room) ++ [(pk, ⟨vk, vn, vs, vx, vy⟩)]))) ∧
  Hid (Kp (fun c => c = b ∨ (Value.slice A n cA).ownBlock = some c) w wx) ∧ Hid (g ≠ b ∧ ((Value.slice A n cA).ownBlock = some g ∨ w.heap.size ≤ g)))
 case first =>
  have HN1 : Hid (∀ u ∈ pcl (pk, ⟨vk, vn, vs, vx, vy⟩), u.oneCell' = true) := pcl_one _
  have HSZ1 : Hid (n + 1 ≤ maxLen) := by show _ ≤ _; unfold maxLen; omega
  have HSZ2 : Hid ((n + 1) * 64 ≤ 140737488355328) := by show _ ≤ _; omega
  have HF : Hid (∀ w2, Below w1.drew.heap.size w1.drew w2 → Hid (Blk w2 b [.int .i64 room, .slice A n cA, .slice L q cL]) ∧ Hid (Below w.heap.size w w2) ∧
   Hid ((w2.alloc (.cells (pcl (pk, ⟨vk, vn, vs, vx, vy⟩)).toArray 35)).ownsRow lo 35 6 (.slice A n cA) n (pcells (l.drop (q * room)))) ∧
   Hid (∀ j u, (pcl (pk, ⟨vk, vn, vs, vx, vy⟩))[j]? = some u → (w2.alloc (.cells (pcl (pk, ⟨vk, vn, vs, vx, vy⟩)).toArray 35)).cell? ((⟨w2.heap.size, 0, none⟩ : Addr).add j) = some u) ∧
   Hid (lo ≤ (w2.alloc (.cells (pcl (pk, ⟨vk, vn, vs, vx, vy⟩)).toArray 35)).heap.size) ∧ w2.cell? ⟨b, 1, none⟩ = some (.slice A n cA) ∧
   (w2.alloc (.cells #[.string (tx pk), .int .i64 vk, .int .i64 vn, .string (tx vs), .int .i64 vx, .int .i64 vy] 35)).cell? ⟨b, 1, none⟩ = some (.slice A n cA)) := fun w2 hb2 => by
   have hb2' : Below w1.heap.size w1 w2 := Below.next (below_drewN (Below.refl _ _) 1) hb2
   have h1 := HBL.out.next hb2'
   have h2 := Below.next HB1.out hb2'
   refine ⟨h1, h2, own_keep (own_keep HOW0.out hb2') (box1 w2 _), fun j u hj => ?_, ?_, h1.c 1 _ rfl, (h1.old _).c 1 _ rfl⟩
   · rw [Addr.add_lit, Nat.zero_add]
     exact (Blk.made w2 35 (pcl (pk, ⟨vk, vn, vs, vx, vy⟩)) rfl).c j u hj
   · have h3 := h2.size
     show lo ≤ _
     rw [World.size_alloc]; omega
  go_region_law (first
   | (refine step_app _ rfl (.tmp 17) (.tmp 20) 22 rfl lo 35 i0 (.agg (pcl pz).toArray) 6 64 Try.underlying22 HI0.out HI1.out HI2.out HI3.out rfl (by decide) (.slice A n cA) n (pcells (l.drop (q * room))) (by simp [Act.eval]) HOW.out ⟨w2.heap.size, 0, none⟩ 1 1 (pcl (pk, ⟨vk, vn, vs, vx, vy⟩)) (by simp [Act.eval]) rfl HNW.out HN1.out HSZ1.out HSZ2.out HSZ3.out ?_
      intro v' w3 hown' hgrow hat
      obtain ⟨gb, c, rfl⟩ := own_shape' hown'
      have hh3 := (HBL2.out.old (.cells (pcl (pk, ⟨vk, vn, vs, vx, vy⟩)).toArray 35)).kp (O := fun c => (Value.slice A n cA).ownBlock = some c) ((Kp.refl _ _).grown hgrow fun b e => .inl e) fun e => HNO.out e
      have c3 := hh3.c 1 _ rfl
      have f3 := hh3.f 1 _ rfl)
   | (go_simp
      go_at_call 20
      refine (HOP.out _).mono ?_
      rintro e w2 ⟨rfl, hb2⟩
      obtain ⟨HBL2, HB2, HOW, HNW, HSZ3, d1, d1'⟩ := HF.out w2 hb2
      clear hb2))
  all_goals
   have hk3 : Kp (fun c => c = b ∨ (Value.slice A n cA).ownBlock = some c) w w3 := ((Below.kp _ HB2.out).alloc _).grown hgrow fun c e => .inl (.inr e)
   have hgb : gb ≠ b ∧ ((Value.slice A n cA).ownBlock = some gb ∨ w.heap.size ≤ gb) := by
    rcases hat with e | e
    · have e' : (Value.slice A n cA).ownBlock = some gb := e.symm
      exact ⟨fun h => HNO.out (by rw [e', h]), .inl e'⟩
    · injection e with e
      have e' : gb = w2.heap.size + 1 := by have : gb = (w2.alloc (.cells (pcl (pk, ⟨vk, vn, vs, vx, vy⟩)).toArray 35)).heap.size := e; rw [World.size_alloc] at this; exact this
      have h1 := HB2.out.size
      have h2 := HBLT.out
      exact ⟨by omega, .inr (by omega)⟩
   have hrow : (w3.setCell ⟨b, 1, none⟩ (.slice (some ⟨gb, 0, none⟩) (n + 1) c)).ownsRow lo 35 6 (.slice (some ⟨gb, 0, none⟩) (n + 1) c) (n + 1) (pcells (l.drop (q * room) ++ [(pk, ⟨vk, vn, vs, vx, vy⟩)])) := by
    rw [pcells_snoc]
    exact own_kp (O := fun c => c = b) hown' ((Kp.refl (fun c => c = b) w3).setCell (b := b) rfl 1 _) fun g e h => hgb.1 (by have e' : some gb = some g := e; injection e' with e'; rw [e']; exact h)
   have HROW := Lib.hid hrow
   have HK3 := Lib.hid (hk3.setCell (b := b) (.inl rfl) 1 (.slice (some ⟨gb, 0, none⟩) (n + 1) c))
   have HH3 := Lib.hid (hh3.set 1 (.slice (some ⟨gb, 0, none⟩) (n + 1) c))
   have HGB := Lib.hid hgb
   clear hk3 hgb hrow hh3 hown' hgrow hat c3 f3 d1 d1' c1 x0 x1 x2 x3 x4 x5
   go_wp2_with (fail)
   go_meet
   exact ⟨gb, c, rfl, HH3, HROW, HK3, HGB⟩
 case rest =>
  obtain ⟨g, c', rfl, HBW, HROW, HKW, HGB⟩ := hcut
  have c0 := HBW.out.c 0 _ rfl
  have d1 := HBW.out.c 1 _ rfl
  by_cases hroom : n + 1 = room
  · subst hroom
    go_wp2_with (fail)
    go_quiet (fail)
    go_wp2_with (fail)
    have hdw := below_drewN (Below.refl wc.heap.size wc) nq
    have HBd := Lib.hid (HBW.out.next hdw)
    have HRd := Lib.hid (own_keep HROW.out hdw)
    have HKd := Lib.hid (HKW.out.next hdw)
    have hZd : wc.heap.size = (wc.drewN nq).heap.size := rfl
    clear hdw c0 d1 c1 x0 x1 x2 x3 x4 x5
    generalize wc.drewN nq = wd at *
    have HDd := Lib.hid (own_kp HS.out.d HKd.out fun x e hx => by
     rcases hx with hx | hx
     · subst hx; exact HS.out.n2 e
     · exact HS.out.n3 x (by rw [← HN.out]; exact hx) e)
    obtain ⟨l', hl'⟩ : ∃ l', l' = l.drop (q * (n + 1)) ++ [((pk, ⟨vk, vn, vs, vx, vy⟩) : Pr)] := ⟨_, rfl⟩
    have HL' := Lib.hid hl'
    rw [← hl'] at HRd
    have hlen : l'.length = n + 1 := by rw [hl', List.length_append, List.length_drop, ← HN.out]; rfl
    have hX' : Tx l' := fun z hz => by
     rw [hl'] at hz
     refine HX.out z ?_
     rcases List.mem_append.1 hz with h | h
     · exact List.mem_append_left _ (List.mem_of_mem_drop h)
     · exact List.mem_append_right _ h
    have HSO : Hid (∀ W, Below wd.heap.size wd W → Calls Try.prog 21 #[.slice (some ⟨g, 0, none⟩) (n + 1) c'] W (JoinQ W (sr l'))) := fun W hW => by
     have := sort_any (some ⟨g, 0, none⟩) c' l' W ⟨prs_own (own_keep HRd.out hW) hlen.symm, fun h => by cases h⟩ (by omega) hX'
     rwa [hlen] at this
    have hsl : (sr l').length = n + 1 := by rw [sr_len]; exact hlen
    have HSL := Lib.hid hsl
    have HLT2 : Hid (b < wd.heap.size) := HBd.out.lt
    have HWD : Hid (w.heap.size ≤ wd.heap.size) := HKd.out.size
    clear hl' hlen hX' hsl hZd
    obtain ⟨i1, hj0, hj1, hj2, hj3⟩ := info_parts infoL
    have HJ0 := Lib.hid hj0; have HJ1 := Lib.hid hj1; have HJ2 := Lib.hid hj2; have HJ3 := Lib.hid hj3
    clear hj0 hj1 hj2 hj3
    have hqq : q ≤ 100000 := by
     have h1 := HS.out.q1
     have := Nat.le_mul_of_pos_right q hr1; omega
    have k1 := HBd.out.c 1 _ rfl
    have k2 := HBd.out.c 2 _ rfl
    go_upto_region 5 with fail
    go_cut [45] from 34 to 47 (fun s45 wx => ∃ g2 c2 A1 c1, s45 = .slice (some ⟨g2, 0, none⟩) (q + 1) c2 ∧ Hid (Blk wx b [.int .i64 (n + 1 : Nat), .slice (some ⟨g, 0, none⟩) (n + 1) c', .slice (some ⟨g2, 0, none⟩) (q + 1) c2]) ∧ Hid (wx.ownsRow lo 22 1 (.slice (some ⟨g2, 0, none⟩) (q + 1) c2) (q + 1) (ps.map pv ++ [.slice A1 (n + 1) c1])) ∧
     Hid (Kp (fun c => c = b ∨ (Value.slice L q cL).ownBlock = some c) wd wx) ∧ Hid (g2 ≠ b ∧ ((Value.slice L q cL).ownBlock = some g2 ∨ wd.heap.size ≤ g2)) ∧ Hid (OwnL wd.heap.size wx A1 (sr l') ∧ (A1 = none → sr l' = [] ∧ c1 = 0) ∧ n + 1 ≤ c1) ∧ Hid (∀ y o, A1 = some ⟨y, o, none⟩ → y ≠ g2))
    case first =>
     have HSZ1 : Hid (q + 1 ≤ maxLen) := by show _ ≤ _; unfold maxLen; omega
     have HSZ2 : Hid ((q + 1) * 24 ≤ 140737488355328) := by show _ ≤ _; omega
     have HF : Hid (∀ w2 A1 c1, Below wd.drew.heap.size wd.drew w2 → Hid (Blk w2 b [.int .i64 (n + 1 : Nat), .slice (some ⟨g, 0, none⟩) (n + 1) c', .slice L q cL]) ∧ Hid (Below wd.heap.size wd w2) ∧
      Hid ((w2.alloc (.cells #[.slice A1 (n + 1) c1] 22)).ownsRow lo 22 1 (.slice L q cL) q (ps.map pv)) ∧
      Hid (∀ j u, [Value.slice A1 (n + 1) c1][j]? = some u → (w2.alloc (.cells #[.slice A1 (n + 1) c1] 22)).cell? ((⟨w2.heap.size, 0, none⟩ : Addr).add j) = some u) ∧
      Hid (∀ u ∈ [Value.slice A1 (n + 1) c1], u.oneCell' = true) ∧
      Hid (lo ≤ (w2.alloc (.cells #[.slice A1 (n + 1) c1] 22)).heap.size) ∧ w2.cell? ⟨b, 2, none⟩ = some (.slice L q cL) ∧
      (w2.alloc (.cells #[.slice A1 (n + 1) c1] 22)).cell? ⟨b, 2, none⟩ = some (.slice L q cL)) := fun w2 A1 c1 hb2 => by
      have hb2' : Below wd.heap.size wd w2 := Below.next (below_drewN (Below.refl _ _) 1) hb2
      have h1 := HBd.out.next hb2'
      refine ⟨h1, hb2', own_keep (own_keep HDd.out hb2') (box1 w2 _), fun j u hj => ?_, fun u hu => ?_, ?_, h1.c 2 _ rfl, (h1.old _).c 2 _ rfl⟩
      · rw [Addr.add_lit, Nat.zero_add]
        exact (Blk.made w2 22 [.slice A1 (n + 1) c1] rfl).c j u hj
      · obtain rfl : u = .slice A1 (n + 1) c1 := by simpa using hu
        rfl
      · have h3 := hb2'.size
        have h4 : w.heap.size ≤ wd.heap.size := HWD.out
        show lo ≤ _
        rw [World.size_alloc]; omega
     go_region_law (first
      | (refine step_app _ rfl (.tmp 38) (.tmp 44) 38 rfl lo 22 i1 (.slice none 0 0) 1 24 Try.underlying38 HJ0.out HJ1.out HJ2.out HJ3.out rfl (by decide) (.slice L q cL) q (ps.map pv) (by simp [Act.eval]) HOW.out ⟨w2.heap.size, 0, none⟩ 1 1 [.slice A1 (n + 1) c1] (by simp [Act.eval]) rfl HNW.out HN1.out HSZ1.out HSZ2.out HSZ3.out ?_
         intro v' w3 hown' hgrow hat
         obtain ⟨g2, c2, rfl⟩ := own_shape' hown'
         have hh3 := (HBL2.out.old (.cells #[.slice A1 (n + 1) c1] 22)).kp (O := fun c => (Value.slice L q cL).ownBlock = some c) ((Kp.refl _ _).grown hgrow fun b e => .inl e) fun e => HS.out.n2 e
         have c3 := hh3.c 2 _ rfl
         have f3 := hh3.f 2 _ rfl)
      | (go_simp
         go_at_call 21
         refine (HSO.out _ (below_drewN (Below.refl _ _) 1)).mono ?_
         rintro e w2 ⟨A1, c1, rfl, ho2, hn2, hc2, hb2⟩
         rw [HSL.out] at hc2 ⊢
         have HO2 := Lib.hid ho2; have HN2 := Lib.hid hn2; have HC2 := Lib.hid hc2
         obtain ⟨HBL2, HB2, HOW, HNW, HN1, HSZ3, d1, d1'⟩ := HF.out w2 A1 c1 hb2
         clear hb2 ho2 hn2 hc2))
     all_goals
      have hvo : ∀ x, (Value.slice L q cL).ownBlock = some x → x < wd.heap.size := fun x e => (own_lt HDd.out e).2
      have hk3 : Kp (fun c => c = b ∨ (Value.slice L q cL).ownBlock = some c) wd w3 := ((Below.kp _ HB2.out).alloc _).grown hgrow fun c e => .inl (.inr e)
      have hz2 : wd.heap.size ≤ w2.heap.size := HB2.out.size
      have hg2 : g2 ≠ b ∧ ((Value.slice L q cL).ownBlock = some g2 ∨ (wd.heap.size ≤ g2 ∧ w2.heap.size < g2)) := by
       rcases hat with e | e
       · have e' : (Value.slice L q cL).ownBlock = some g2 := e.symm
         exact ⟨fun h => HS.out.n2 (by rw [e', h]), .inl e'⟩
       · injection e with e
         have e' : g2 = w2.heap.size + 1 := by have : g2 = (w2.alloc (.cells #[.slice A1 (n + 1) c1] 22)).heap.size := e; rw [World.size_alloc] at this; exact this
         have h2 := HLT2.out
         exact ⟨by omega, .inr ⟨by omega, by omega⟩⟩
      have hA1 : ∀ y o, A1 = some ⟨y, o, none⟩ → wd.heap.size ≤ y ∧ y < w2.heap.size := fun y o e => by
       refine ⟨?_, HO2.out.lt y o e⟩
       rcases HO2.out with ⟨_, e1⟩ | ⟨g', e1, h3, _⟩
       · rw [e1] at e; cases e
       · rw [e1] at e
         injection e with e
         injection e with e
         rw [← e]; exact h3
      have HX3 : Hid (∀ y o, A1 = some ⟨y, o, none⟩ → y ≠ g2) := fun y o e h => by
       have h1 := hA1 y o e
       rcases hg2.2 with h2 | h2
       · have := hvo g2 h2; omega
       · omega
      have HO3 : Hid (OwnL wd.heap.size (w3.setCell ⟨b, 2, none⟩ (.slice (some ⟨g2, 0, none⟩) (q + 1) c2)) A1 (sr l')) := by
       have h1 : OwnL wd.heap.size w2 A1 (sr l') := HO2.out
       have h2 := (h1.next (box1 w2 (.cells #[.slice A1 (n + 1) c1] 22))).kp (O := fun c => (Value.slice L q cL).ownBlock = some c) ((Kp.refl _ _).grown hgrow fun b e => .inl e) fun y o e h => by
        have := hA1 y o e; have := hvo y h; omega
       exact h2.kp (O := fun c => c = b) ((Kp.refl (fun c => c = b) w3).setCell (b := b) rfl 2 _) fun y o e h => by
        have := hA1 y o e; have := HLT2.out; omega
      have HROW3 : Hid ((w3.setCell ⟨b, 2, none⟩ (.slice (some ⟨g2, 0, none⟩) (q + 1) c2)).ownsRow lo 22 1 (.slice (some ⟨g2, 0, none⟩) (q + 1) c2) (q + 1) (ps.map pv ++ [.slice A1 (n + 1) c1])) :=
       own_kp (O := fun c => c = b) hown' ((Kp.refl (fun c => c = b) w3).setCell (b := b) rfl 2 _) fun g e h => hg2.1 (by have e' : some g2 = some g := e; injection e' with e'; rw [e']; exact h)
      have HK3 := Lib.hid (hk3.setCell (b := b) (.inl rfl) 2 (.slice (some ⟨g2, 0, none⟩) (q + 1) c2))
      have HH3 := Lib.hid (hh3.set 2 (.slice (some ⟨g2, 0, none⟩) (q + 1) c2))
      have HG3 : Hid (g2 ≠ b ∧ ((Value.slice L q cL).ownBlock = some g2 ∨ wd.heap.size ≤ g2)) := ⟨hg2.1, hg2.2.imp id fun h => h.1⟩
      clear hvo hk3 hz2 hg2 hA1 hh3 hown' hgrow hat c3 f3 d1 d1' k1 k2
      go_wp2_with (fail)
      go_meet
      exact ⟨g2, c2, A1, c1, rfl, HH3, HROW3, HK3, HG3, ⟨HO3.out, HN2.out, HC2.out⟩, HX3⟩
    case rest =>
     obtain ⟨g2, c2, A1, c1, rfl, HB9, HR9, HK9, HG9, HO9, HX9⟩ := hcut
     have e1 := HB9.out.c 1 _ rfl
     have e2 := HB9.out.f 1 _ rfl
     clear k1 k2
     go_wp2_with (fail)
     have hkw : Kp (sO b (.slice A n cA) (.slice L q cL)) w wc := (HKd.out.mono fun c e => e.elim .inl fun e => .inr (.inl e)).trans (HK9.out.mono fun c e => (e.elim .inl fun e => .inr (.inr e) : sO b (.slice A n cA) (.slice L q cL) c)) fun c e => .inl e
     have hg9 : g2 ≠ b ∧ ((Value.slice L q cL).ownBlock = some g2 ∨ w.heap.size ≤ g2) := ⟨HG9.out.1, HG9.out.2.imp id fun h => Nat.le_trans HWD.out h⟩
     have hg2b := HG9.out.1
     have hA9 : ∀ y o, A1 = some ⟨y, o, none⟩ → wd.heap.size ≤ y := fun y o e => by
      rcases HO9.out.1 with ⟨_, e1⟩ | ⟨g', e1, h3, _⟩
      · rw [e1] at e; cases e
      · rw [e1] at e
        injection e with e
        injection e with e
        rw [← e]; exact h3
     have hset : Kp (fun c => c = b) wc (wc.setCell ⟨b, 1, none⟩ (.slice none 0 0)) := (Kp.refl (fun c => c = b) wc).setCell (b := b) rfl 1 _
     have hfull := HS.out.full (w' := wc.setCell ⟨b, 1, none⟩ (.slice none 0 0)) (g := g2) (c' := c2) (pk, ⟨vk, vn, vs, vx, vy⟩) (by rw [← HN.out]) (A1, c1, sr l') (by rw [← HL'.out]) (HB9.out.set 1 (.slice none 0 0))
      (own_kp (O := fun c => c = b) (by show wc.ownsRow _ _ _ _ _ (ps.map pv ++ [.slice A1 (sr l').length c1]); rw [HSL.out]; exact HR9.out) hset fun g e h => hg2b (by have e' : some g2 = some g := e; injection e' with e'; rw [e']; exact h))
      (by rw [← HN.out]; exact hkw.setCell (b := b) (.inl rfl) 1 _) hg9
      ⟨(HO9.out.1.kp (O := fun c => c = b) hset fun y o e h => by have := hA9 y o e; have := HLT2.out; omega).lower HWD.out, HO9.out.2.1, by rw [HSL.out]; exact HO9.out.2.2⟩ HX9.out hlo
     have hkf := hkw.setCell (b := b) (.inl rfl) 1 (.slice none 0 0)
     rw [HN.out] at hkf
     go_ret
     exact ⟨rfl, q + 1, _, _, _, hfull.1, hkf, hfull.2⟩
  · have hrz : (((n : Int) + 1) == (room : Int)) = false := by simp; omega
    clear c1 x0 x1 x2 x3 x4 x5
    go_wp2_with (fail)
    go_quiet (fail)
    go_wp2_with (fail)
    have hk9 := HKW.out
    rw [HN.out] at hroom
    have hm := HS.out.more (pk, ⟨vk, vn, vs, vx, vy⟩) hroom (by rw [← HN.out]; exact HBW.out) (by rw [← HN.out]; exact HROW.out) (by rw [← HN.out]; exact HKW.out) (by rw [← HN.out]; exact HGB.out)
    go_ret
    exact ⟨rfl, q, _, _, ps, hm.1.next (below_drewN (Below.refl _ _) _), ((by rw [← HN.out]; exact HKW.out : Kp (fun c => c = b ∨ (Value.slice A (l.length - q * room) cA).ownBlock = some c) w wc).mono fun c e => e.elim .inl fun e => .inr (.inl e)).drewN _, hm.2⟩
end Go.Proofs.Ytamhfjlffacakaa.So

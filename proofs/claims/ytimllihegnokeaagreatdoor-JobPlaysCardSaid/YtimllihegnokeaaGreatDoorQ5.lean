/-
  Small texts of this claim, together: EvDo, EvKit, EvStand, EvGrow, EvBeh, JoAwake, JoPut3, ExRefX.
-/
import Derived.Test.YtimllihegnokeaaGreatDoorQEvMem
import Derived.Test.YtimllihegnokeaaGreatDoorQ3
import Derived.Test.YtimllihegnokeaaGreatDoorQ1
import Derived.Deep.RegionWith
import Derived.Defers
import Derived.Deep.AppendLies
import Derived.Deep.RegionLaw
import Derived.Deep.OwnRows
import Derived.Test.YtimllihegnokeaaGreatDoorQJoFold2
import Derived.Test.YtimllihegnokeaaGreatDoorQ2
import Derived.Test.YtimllihegnokeaaGreatDoorQ4
import Derived.Test.YtimllihegnokeaaGreatDoorQExWrite
import Derived.Deep.Cut
import Derived.Test.YtimllihegnokeaaGreatDoorQExRefO
namespace Go.Proofs.YtimllihegnokeaaGreatDoor.Ev
open Go.ChangeShapes Go.WideShapes Go.ChangeAt Go.RowKit Ov Va Ex
section
variable {w0 w wa : World} {A : Option Addr} {c E b B C n : Nat} {l : List No} {S : St} {ov ova : Value} {x0 x1 x2 x3 x4 y0 y1 y2 y3 y4 : Value}
end
section
variable {w0 W w' : World} {A : Option Addr} {c E b n g cap : Nat} {l : List No} {S : St} {ov : Value} {p : List UInt8 × Va}
theorem Doer.cell_far (h : Doer w0 A c E b l S n ov W) (hg : W.grownBy w' ov.ownBlock) : w'.cell? ⟨b, 57, none⟩ = some ov ∧ w'.frozen? ⟨b, 57, none⟩ = false :=
 ⟨(hg.cell_far ⟨b, 57, none⟩ h.lt (fun e => h.sb e.symm)).trans (h.blk.c 57 _ rfl), (hg.frozen_far ⟨b, 57, none⟩ h.lt (fun e => h.sb e.symm)).trans (h.blk.f 57 _ rfl)⟩
theorem Doer.grown (h : Doer w0 A c E b l S n ov W) (hl : 0 < l.length) (ho : w'.ownsRow w0.heap.size 231 6 (.slice (some ⟨g, 0, none⟩) (S.out.length + 1) cap) (S.out.length + 1) (pcells S.out ++ pcl p)) (hg : W.grownBy w' ov.ownBlock) (hgr : ov.ownBlock = some g ∨ g = W.heap.size) :
 Doer w0 A c E b l { S with out := S.out ++ [p] } n (.slice (some ⟨g, 0, none⟩) (S.out.length + 1) cap) (w'.setCell ⟨b, 57, none⟩ (.slice (some ⟨g, 0, none⟩) (S.out.length + 1) cap)) ∧
 Mv b ov W (.slice (some ⟨g, 0, none⟩) (S.out.length + 1) cap) (w'.setCell ⟨b, 57, none⟩ (.slice (some ⟨g, 0, none⟩) (S.out.length + 1) cap)) := by
 have hEl := h.ltE hl
 have hbl := h.lt
 have hgb : g ≠ b := fun e => by
  rcases hgr with e1 | e1
  · exact h.sb (by rw [e1, e])
  · omega
 have hgE : g ≠ E := fun e => by
  rcases hgr with e1 | e1
  · exact h.sE (by rw [e1, e])
  · omega
 have hv : (Value.slice (some ⟨g, 0, none⟩) (S.out.length + 1) cap).ownBlock = some g := rfl
 have hblk : Blk w' b (dcs A c E b l.length S n ov) := ⟨fun i v x => (hg.cell_far ⟨b, i, none⟩ hbl (fun e => h.sb e.symm)).trans (h.blk.c i v x), fun i v x => (hg.frozen_far ⟨b, i, none⟩ hbl (fun e => h.sb e.symm)).trans (h.blk.f i v x), Nat.lt_of_lt_of_le hbl hg.size⟩
 refine ⟨⟨(h.fro.grown hg h.fro.size (fun k e => (h.out.lt k e).1)).setCell h.hb _, h.hb, h.hE, h.ne, (hblk.set 57 _).cast rfl, fun i hi => ?_, ?_, fun e => hgb (by rw [hv] at e; exact Option.some.inj e), fun e => hgE (by rw [hv] at e; exact Option.some.inj e)⟩,
  ⟨hg.os, hg.tape, hg.output, by simpa using hg.size, fun k hk hkb hko => (Below.heap_setCell _ _ _ _ hkb).trans (hg.block k hk (fun e => hko e.symm)), ?_⟩⟩
 · rw [World.cell?_setCell_other _ _ _ _ (fun e => h.ne (by injection e with e1; exact e1.symm))]
   exact (hg.cell_far ⟨E, i, none⟩ hEl (fun e => h.sE e.symm)).trans (h.beh i hi)
 · show World.ownsRow _ _ _ _ _ (S.out ++ [p]).length _
   rw [pcells_snoc, List.length_append]
   exact ownsRow_setCell_other ho (by rw [hv]; exact fun e => hgb (Option.some.inj e)) _
 · rw [hv]
   rcases hgr with e1 | e1
   · exact .inl e1.symm
   · exact .inr ⟨g, rfl, by omega⟩
end
end Go.Proofs.YtimllihegnokeaaGreatDoor.Ev
namespace Go.Proofs.YtimllihegnokeaaGreatDoor.Jo
open Go.ChangeShapes Go.WideShapes Go.ChangeAt Go.RowKit Ov Ga Va
theorem made5 (w : World) (t : TypeId) (x0 x1 x2 x3 x4 : Value) : Blk (w.alloc (.cells #[x0, x1, x2, x3, x4] t)) w.heap.size [x0, x1, x2, x3, x4] := Blk.made w t [x0, x1, x2, x3, x4] rfl
theorem sum_eg (w : World) : Calls Tryz.prog 19 #[.string ⟨#[115, 117, 109]⟩, .agg #[.int .i64 0, .int .i64 9007199254740992, .string ⟨#[]⟩, .int .i64 0, .int .i64 0], .agg #[.int .i64 0, .int .i64 0, .string ⟨#[]⟩, .int .i64 0, .int .i64 0]] w
 (Gives (.tuple #[.agg #[.int .i64 0, .int .i64 (-9007199254740992), .string ⟨#[]⟩, .int .i64 0, .int .i64 0], .int .i64 0]) w) := by
 have e : fo wSum ⟨0, 9007199254740992, [], 0, 0⟩ ⟨0, 0, [], 0, 0⟩ = (⟨0, -9007199254740992, [], 0, 0⟩, 0) := by decide +kernel
 have h := fold_any ⟨#[115, 117, 109]⟩ 0 9007199254740992 0 0 0 0 0 0 ⟨#[]⟩ ⟨#[]⟩ w
 change Calls _ _ _ _ (Gives (.tuple #[.agg #[.int .i64 (fo wSum ⟨0, 9007199254740992, [], 0, 0⟩ ⟨0, 0, [], 0, 0⟩).1.k, .int .i64 (fo wSum ⟨0, 9007199254740992, [], 0, 0⟩ ⟨0, 0, [], 0, 0⟩).1.n, .string (tx (fo wSum ⟨0, 9007199254740992, [], 0, 0⟩ ⟨0, 0, [], 0, 0⟩).1.s), .int .i64 (fo wSum ⟨0, 9007199254740992, [], 0, 0⟩ ⟨0, 0, [], 0, 0⟩).1.x, .int .i64 (fo wSum ⟨0, 9007199254740992, [], 0, 0⟩ ⟨0, 0, [], 0, 0⟩).1.y], .int .i64 (fo wSum ⟨0, 9007199254740992, [], 0, 0⟩ ⟨0, 0, [], 0, 0⟩).2]) w) at h
 rw [e] at h
 exact h
theorem gcd_eg (w : World) : Calls Tryz.prog 19 #[.string ⟨#[103, 99, 100]⟩, .agg #[.int .i64 0, .int .i64 (-4), .string ⟨#[]⟩, .int .i64 0, .int .i64 0], .agg #[.int .i64 0, .int .i64 6, .string ⟨#[]⟩, .int .i64 0, .int .i64 0]] w
 (Gives (.tuple #[.agg #[.int .i64 0, .int .i64 2, .string ⟨#[]⟩, .int .i64 0, .int .i64 0], .int .i64 0]) w) := by
 have e : fo wGcd ⟨0, -4, [], 0, 0⟩ ⟨0, 6, [], 0, 0⟩ = (⟨0, 2, [], 0, 0⟩, 0) := by decide +kernel
 have h := fold_any ⟨#[103, 99, 100]⟩ 0 (-4) 0 0 0 6 0 0 ⟨#[]⟩ ⟨#[]⟩ w
 change Calls _ _ _ _ (Gives (.tuple #[.agg #[.int .i64 (fo wGcd ⟨0, -4, [], 0, 0⟩ ⟨0, 6, [], 0, 0⟩).1.k, .int .i64 (fo wGcd ⟨0, -4, [], 0, 0⟩ ⟨0, 6, [], 0, 0⟩).1.n, .string (tx (fo wGcd ⟨0, -4, [], 0, 0⟩ ⟨0, 6, [], 0, 0⟩).1.s), .int .i64 (fo wGcd ⟨0, -4, [], 0, 0⟩ ⟨0, 6, [], 0, 0⟩).1.x, .int .i64 (fo wGcd ⟨0, -4, [], 0, 0⟩ ⟨0, 6, [], 0, 0⟩).1.y], .int .i64 (fo wGcd ⟨0, -4, [], 0, 0⟩ ⟨0, 6, [], 0, 0⟩).2]) w) at h
 rw [e] at h
 exact h
set_option maxHeartbeats 1000000 in
theorem awake_any (w : World) : Calls Tryz.prog 8 #[] w (Gives (.bool true) w) := by
 have HB := Lib.hid (Below.refl w.heap.size w)
 go_enter Tryz.func8, Tryz.ntmps8
 go_wp2_with (fail)
 refine (sum_eg _).mono ?_
 rintro e w1 ⟨rfl, hb⟩
 replace HB := Lib.hid (Below.next HB.out hb)
 clear hb
 have Ha := Lib.hid (made5 w1 45 (.int .i64 0) (.int .i64 (-9007199254740992)) (.string ⟨#[]⟩) (.int .i64 0) (.int .i64 0))
 replace HB := Lib.hid (below_box HB.out (.cells #[.int .i64 0, .int .i64 (-9007199254740992), .string ⟨#[]⟩, .int .i64 0, .int .i64 0] 45))
 go_wp2_with (fail)
 generalize w1.alloc (.cells #[.int .i64 0, .int .i64 (-9007199254740992), .string ⟨#[]⟩, .int .i64 0, .int .i64 0] 45) = v1 at *
 refine (gcd_eg _).mono ?_
 rintro e w2 ⟨rfl, hb⟩
 replace Ha := Lib.hid (Ha.out.next hb)
 replace HB := Lib.hid (Below.next HB.out hb)
 clear hb
 have Hb := Lib.hid (made5 w2 45 (.int .i64 0) (.int .i64 2) (.string ⟨#[]⟩) (.int .i64 0) (.int .i64 0))
 have lab := Ha.out.lt
 replace Ha := Lib.hid (Ha.out.old (.cells #[.int .i64 0, .int .i64 2, .string ⟨#[]⟩, .int .i64 0, .int .i64 0] 45))
 replace HB := Lib.hid (below_box HB.out (.cells #[.int .i64 0, .int .i64 2, .string ⟨#[]⟩, .int .i64 0, .int .i64 0] 45))
 obtain ⟨ca0, ca1, ca2, ca3, ca4⟩ := five Ha.out
 obtain ⟨cb0, cb1, cb2, cb3, cb4⟩ := five Hb.out
 go_wp2_with (fail)
 clear ca0 ca1 ca2 ca3 ca4 cb0 cb1 cb2 cb3 cb4
 go_ret
 exact ⟨rfl, HB.out⟩
end Go.Proofs.YtimllihegnokeaaGreatDoor.Jo
namespace Go.Proofs.YtimllihegnokeaaGreatDoor.Jo
open Go.ChangeShapes Go.WideShapes Go.ChangeAt Go.RowKit Ov Va Ex
set_option maxHeartbeats 1000000 in
theorem pute_any (b : Nat) (l : List UInt8) (x : Int) (word : List UInt8) (L : List No) (A : Option Addr) (c : Nat) (w : World) (h : Wr b l x w) (hn : Nds w A L) (hk : KM w) (ht : Tab w) (hc : L.length ≤ c) (hl : L.length ≤ 4294967296) (hsz : l.length + word.length + (wq L).1.length ≤ 1000000) (hB : b ≤ w.heap.size) :
 Calls Tryz.prog 26 #[.string (tx word), .slice A L.length c, .pointer (some ⟨b + 1, 0, none⟩), .pointer (some ⟨b + 1 + 1, 0, none⟩)] w
  (fun e w' => e = .returned (.tuple #[]) ∧ Wr b (l ++ ((word ++ 32 :: (wq L).1) ++ [10])) (orl [x, ((wq L).2 : Int)]) w' ∧ Below b w w') := by
 have HE := Lib.hid (ewrite_any L A c w hn hk ht hc hl)
 have HW := Lib.hid h
 clear h hn hk ht
 generalize (wq L).1 = s at *
 generalize ((wq L).2 : Int) = y at *
 go_enter Tryz.func26, Tryz.ntmps26
 go_wp2_with (fail)
 refine HE.out.mono ?_
 rintro e w1 ⟨rfl, hb⟩
 have HW1 := Lib.hid (HW.out.next hb)
 have HB1 := Lib.hid (show Below b w w1 from hb.mono hB)
 have hB1 : b ≤ w1.heap.size := by have := hb.size; omega
 clear hb HE HW
 have c0 := HW1.out.fault
 go_wp2_with (fail)
 clear c0
 refine (orE_any [x, y] w1.heap.size _ (Blk.made w1 27 [.int .i64 x, .int .i64 y] rfl) (by simp)).mono ?_
 rintro e w2 ⟨rfl, rfl⟩
 have HW2 := Lib.hid (HW1.out.next (box1 w1 (.cells #[.int .i64 x, .int .i64 y] 27)))
 have HB2 := Lib.hid (HB1.out.alloc hB1 (.cells #[.int .i64 x, .int .i64 y] 27))
 have c0 := HW2.out.fault
 have f0 := HW2.out.thaw
 have hlt := HW2.out.lt
 obtain ⟨z, hz⟩ : ∃ z, orl [x, y] = z := ⟨_, rfl⟩
 have HZ := Lib.hid hz
 rw [hz]
 clear HW1 HB1 hz
 go_upto_region 2 with fail
 have HW3 := Lib.hid (HW2.out.setx z)
 have HB3 := Lib.hid (HB2.out.setCell (p := ⟨b + 1, 0, none⟩) (Nat.le_succ _) (.int .i64 z))
 clear c0 f0 hlt HW2 HB2
 change Code.wp _ _ _ _ ((w1.alloc (.cells #[.int .i64 x, .int .i64 y] 27)).setCell ⟨b + 1, 0, none⟩ (.int .i64 z))
 generalize (w1.alloc (.cells #[.int .i64 x, .int .i64 y] 27)).setCell ⟨b + 1, 0, none⟩ (.int .i64 z) = w3 at *
 have c0 := HW3.out.func
 go_wp2_with (fail)
 clear c0
 refine (putw2 (tx word) (tx s) HW3.out (by rw [tx_size, tx_size]; exact hsz)).mono ?_
 rintro e w4 ⟨rfl, hw, hb⟩
 rw [tx_list, tx_list] at hw
 have HW4 := Lib.hid hw; have HB4 := Lib.hid (HB3.out.trans hb)
 clear hw hb
 go_wp2_with (fail)
 refine bodyPost_end (results_none rfl _ _ _) rfl ?_
 exact ⟨rfl, by rw [HZ.out]; exact HW4.out, HB4.out⟩
end Go.Proofs.YtimllihegnokeaaGreatDoor.Jo
namespace Go.Proofs.YtimllihegnokeaaGreatDoor.Ex
open Go.ChangeShapes Go.WideShapes Go.ChangeAt Go.RowKit Ov Va
set_option maxRecDepth 100000 in
theorem xright_any (l : List No) (A : Option Addr) (c : Nat) (w : World) (hn : Nds w A l) (hl : l.length ≤ 4294967296) : Calls Tryz.prog 43 #[.slice A l.length c] w (Gives (.bool (Rt l)) w) := by
 rw [Rt_val]
 by_cases h4 : l.length ≤ 400
 · rw [decide_eq_true h4, Bool.true_and]
   have HC := Lib.hid (one_any 25 l A c 0 0 w hn rfl hl)
   rw [List.drop_zero] at HC
   clear hn
   obtain ⟨x, hx⟩ : ∃ x, ex 25 l = x := ⟨_, rfl⟩
   rw [hx] at HC ⊢
   have HX := Lib.hid hx; clear hx
   cases x with
   | none =>
     rw [decide_eq_false (show ¬ (none : Option (List No)) = some [] by simp)]
     unfold onv at HC
     have g : ((-1 : Int) == (l.length : Int)) = false := by rw [beq_eq_false_iff_ne]; omega
     go_enter Tryz.func43, Tryz.ntmps43
     go_wp2_with (fail)
     refine HC.out.mono ?_
     rintro e w1 ⟨rfl, hb⟩
     have HB := Lib.hid hb; clear hb
     go_wp2_with (fail)
     go_ret
     exact ⟨rfl, HB.out⟩
   | some r =>
     have hr := (ex_len HX.out).1
     unfold onv at HC
     dsimp only at HC
     obtain ⟨v, hv⟩ : ∃ v, l.length - r.length = v := ⟨_, rfl⟩
     rw [hv] at HC
     have HE : decide (some r = some ([] : List No)) = ((v : Int) == (l.length : Int)) := by
      rw [Bool.eq_iff_iff]
      simp only [decide_eq_true_eq, beq_iff_eq, Option.some.injEq]
      constructor
      · rintro rfl; rw [List.length_nil] at hv; omega
      · intro h; exact List.eq_nil_of_length_eq_zero (by omega)
     rw [HE]
     clear HE hv HX hr
     go_enter Tryz.func43, Tryz.ntmps43
     go_wp2_with (fail)
     refine HC.out.mono ?_
     rintro e w1 ⟨rfl, hb⟩
     have HB := Lib.hid hb; clear hb
     go_wp2_with (fail)
     go_ret
     exact ⟨rfl, HB.out⟩
 · rw [decide_eq_false h4, Bool.false_and]
   have h5 : 400 < l.length := by omega
   clear hn
   go_enter Tryz.func43, Tryz.ntmps43
   go_wp2_with (fail)
   go_ret
   exact ⟨rfl, Below.refl _ _⟩
theorem xend_any (l : List No) (A : Option Addr) (c k : Nat) (w : World) (hn : Nds w A l) (hl : l.length ≤ 4294967296) : Calls Tryz.prog 82 #[.slice A l.length c, .int .i64 (k : Int)] w (Gives (onv l.length (ex 25 (l.drop k))) w) := by
 have HC := Lib.hid (one_any 25 l A c k 0 w hn rfl hl)
 clear hn
 generalize onv l.length (ex 25 (l.drop k)) = v at *
 go_enter Tryz.func82, Tryz.ntmps82
 go_wp2_with (fail)
 refine HC.out.mono ?_
 rintro e w1 ⟨rfl, hb⟩
 have HB := Lib.hid hb; clear hb
 go_wp2_with (fail)
 go_ret
 exact ⟨rfl, HB.out⟩
set_option maxRecDepth 100000 in
set_option maxHeartbeats 4000000 in
theorem xwrite_any : ∀ (d : Nat) (l r : List No) (A : Option Addr) (c k : Nat) (w : World), Nds w A l → ex d (l.drop k) = some r → d ≤ 25 → l.length ≤ 1000 → Calls Tryz.prog 46 #[.slice A l.length c, .int .i64 (k : Int)] w (Gives (.string (tx (wt d (l.drop k)))) w)
 | 0, _, _, _, _, _, _, _, h, _, _ => by cases h
 | d + 1, l, r, A, c, k, w, hn, h, hd, hl => by
   have hk : k < l.length := by
    rcases Nat.lt_or_ge k l.length with h1 | h1
    · exact h1
    · rw [List.drop_of_length_le h1, ex_nil] at h; cases h
   have ih := xwrite_any d
   obtain ⟨B, O, rfl⟩ := hn.shape (by omega)
   have HI : Hid (∀ (r : List No) (k : Nat) (w : World), Nds w (some ⟨B, O, none⟩) l → ex d (l.drop k) = some r → Calls Tryz.prog 46 #[.slice (some ⟨B, O, none⟩) l.length c, .int .i64 (k : Int)] w (Gives (.string (tx (wt d (l.drop k)))) w)) :=
    fun r k w h1 h2 => ih l r (some ⟨B, O, none⟩) c k w h1 h2 (by omega) hl
   clear ih
   have e0 := hn.cell hk 0 _ rfl
   have e1 := hn.cell hk 1 _ rfl
   have e2 := hn.cell hk 2 _ rfl
   have e3 := hn.cell hk 3 _ rfl
   have e4 := hn.cell hk 4 _ rfl
   have e5 := hn.cell hk 5 _ rfl
   rw [Nat.add_zero] at e0
   have hmax := wt_max _ _ _ h
   rw [drop_nd hk] at h hmax ⊢
   rw [ex_cons] at h
   have hrn : rn (nd l k) = true := by
    rcases Bool.eq_false_or_eq_true (rn (nd l k)) with hr | hr
    · exact hr
    · rw [hr] at h; cases h
   rw [if_pos hrn] at h
   have hrc := rn_cases hrn
   rw [wt_cons] at hmax ⊢
   have hml : (nd l k :: l.drop (k + 1)).length ≤ 1000 := by rw [List.length_cons, List.length_drop]; omega
   generalize (nd l k :: l.drop (k + 1)).length = L at *
   generalize nd l k = n at *
   obtain ⟨o, vk, vn, vs, vx, vy⟩ := n
   have hvs : (tx vs).data.toList = vs := tx_list vs
   dsimp only at *
   have HN := Lib.hid hn; have HEX := Lib.hid h
   clear hn h hrn
   by_cases h0 : o = 0
   · subst h0
     have hv : rt ⟨vk, vn, vs, vx, vy⟩ = true := by
      rcases hrc with ⟨_, h⟩ | ⟨h, _⟩ | ⟨h, _⟩
      · exact h
      · cases h
      · exact absurd h.1 (by decide)
     have HV := Lib.hid (rwrite_yes (k := vk) (n := vn) (x := vx) (y := vy) (s := tx vs) (by rw [hvs]; exact hv))
     rw [hvs] at HV
     rw [if_pos rfl]
     clear hrc hmax hv hvs
     generalize tx (wr ⟨vk, vn, vs, vx, vy⟩) = q at *
     generalize tx vs = s at *
     go_enter Tryz.func46, Tryz.ntmps46
     go_wp2_with (fail)
     have kb := box1 w (.cells #[.int .i64 0, .int .i64 vk, .int .i64 vn, .string s, .int .i64 vx, .int .i64 vy] 57)
     generalize w.alloc (.cells #[.int .i64 0, .int .i64 vk, .int .i64 vn, .string s, .int .i64 vx, .int .i64 vy] 57) = w1 at *
     refine (HV.out _).mono ?_
     rintro e w2 ⟨rfl, hb⟩
     have HB := Lib.hid (Below.next kb hb); clear hb
     go_wp2_with (fail)
     go_ret
     exact ⟨rfl, HB.out⟩
   by_cases h1 : o = 1
   · subst h1
     have hv : 0 ≤ vn ∧ vn < 5 := by
      rcases hrc with ⟨h, _⟩ | ⟨_, _, h⟩ | ⟨h, _⟩
      · cases h
      · exact h
      · exact absurd h.1 (by decide)
     have HV := Lib.hid (rname_any hv)
     rw [if_neg h0, if_pos rfl]
     clear hrc hmax hv hvs
     generalize tx (nm vn) = q at *
     generalize tx vs = s at *
     go_enter Tryz.func46, Tryz.ntmps46
     go_wp2_with (fail)
     have kb := box1 w (.cells #[.int .i64 1, .int .i64 vk, .int .i64 vn, .string s, .int .i64 vx, .int .i64 vy] 57)
     generalize w.alloc (.cells #[.int .i64 1, .int .i64 vk, .int .i64 vn, .string s, .int .i64 vx, .int .i64 vy] 57) = w1 at *
     refine (HV.out _).mono ?_
     rintro e w2 ⟨rfl, hb⟩
     have HB := Lib.hid (Below.next kb hb); clear hb
     go_wp2_with (fail)
     go_ret
     exact ⟨rfl, HB.out⟩
   · rw [if_neg h0, if_neg h1] at hmax ⊢
     clear hrc hvs
     have HWD := Lib.hid (word_any o)
     have HPT := Lib.hid (rparts_any o)
     have hp3 := pa_le o
     have g0 : (o == 0) = false := beq_eq_false_iff_ne.2 h0
     have g1 : (o == 1) = false := beq_eq_false_iff_ne.2 h1
     have hfull : (40 :: (wd o ++ (ts (wt d) (ex d) (pa o) (l.drop (k + 1)) ++ [41]))).length ≤ 12300000 := by omega
     have htx : ∀ dn : List UInt8, dn = 40 :: (wd o ++ ts (wt d) (ex d) (pa o) (l.drop (k + 1))) → tx dn ++ ⟨#[41]⟩ = tx (40 :: (wd o ++ (ts (wt d) (ex d) (pa o) (l.drop (k + 1)) ++ [41]))) := fun dn e => by
      rw [e, show (⟨#[41]⟩ : ByteArray) = tx [41] from rfl, tx_append]; simp
     have hst : tx [40] ++ tx (wd o) = tx (40 :: wd o) := by rw [tx_append]; rfl
     have hst2 : (40 :: wd o) ++ ts (wt d) (ex d) (pa o) (l.drop (k + 1)) = 40 :: (wd o ++ ts (wt d) (ex d) (pa o) (l.drop (k + 1))) := rfl
     have hlw : (40 :: (wd o ++ ts (wt d) (ex d) (pa o) (l.drop (k + 1)))).length ≤ 12300000 := by
      simp only [List.length_cons, List.length_append] at hfull ⊢; omega
     have hwo : (tx (wd o)).size ≤ 12300000 := by
      rw [tx_size]; simp only [List.length_cons, List.length_append] at hfull; omega
     have HST := Lib.hid hst; have HST2 := Lib.hid hst2; have HTX := Lib.hid htx
     clear hst hst2 htx hfull hmax h0 h1
     generalize 40 :: (wd o ++ (ts (wt d) (ex d) (pa o) (l.drop (k + 1)) ++ [41])) = T at *
     generalize 40 :: (wd o ++ ts (wt d) (ex d) (pa o) (l.drop (k + 1))) = F at *
     generalize 40 :: wd o = S0 at *
     generalize tx (wd o) = sw at *
     generalize pa o = p at *
     generalize tx vs = s at *
     have gs : ¬ 1 + sw.size > 9223372036854775807 := by omega
     clear hwo
     go_enter Tryz.func46, Tryz.ntmps46
     go_wp2_with (fail)
     have kb := box1 w (.cells #[.int .i64 o, .int .i64 vk, .int .i64 vn, .string s, .int .i64 vx, .int .i64 vy] 57)
     have D := Blk.made w 57 [.int .i64 o, .int .i64 vk, .int .i64 vn, .string s, .int .i64 vx, .int .i64 vy] rfl
     change Blk (w.alloc (.cells #[.int .i64 o, .int .i64 vk, .int .i64 vn, .string s, .int .i64 vx, .int .i64 vy] 57)) w.heap.size _ at D
     generalize w.alloc (.cells #[.int .i64 o, .int .i64 vk, .int .i64 vn, .string s, .int .i64 vx, .int .i64 vy] 57) = w1 at *
     refine (HWD.out _).mono ?_
     rintro e w2 ⟨rfl, hb⟩
     have HB := Lib.hid (Below.next kb hb)
     have HD := Lib.hid (D.next hb)
     clear hb kb D e0 e1 e2 e3 e4 e5
     go_wp2_with (fail)
     go_loopw [6, 1, 7] (fun u a i wr => ∃ (y q : Nat) (dn : List UInt8), q ≤ p ∧ y ≤ l.length ∧ u = .string (tx dn) ∧ i = .int .i64 (q : Int) ∧ a = .int .i64 (y : Int) ∧ it (ex d) (p - q) (l.drop y) = some r ∧ dn ++ ts (wt d) (ex d) (p - q) (l.drop y) = F ∧ Below w.heap.size w wr ∧ Blk wr w.heap.size [.int .i64 o, .int .i64 vk, .int .i64 vn, .string s, .int .i64 vx, .int .i64 vy]) (fun _ _ i _ => p - (intOf i).toNat)
     case atStart => exact ⟨k + 1, 0, S0, Nat.zero_le _, by omega, by rw [← HST.out]; rfl, rfl, by go_num, HEX.out, HST2.out, HB.out, HD.out⟩
     case round =>
      obtain ⟨y, q, dn, hq, hy, rfl, rfl, rfl, hz, hf, hb, hd1⟩ := hrel
      have c0 := hd1.c 0 _ rfl
      have HB1 := Lib.hid hb
      have HD1 := Lib.hid hd1
      have HZ := Lib.hid hz
      have HF := Lib.hid hf
      clear hb hz hf hd1 HB HD HEX
      go_wp2_with (fail)
      refine (HPT.out _).mono ?_
      rintro e w4 ⟨rfl, hb⟩
      have HB4 := Lib.hid (Below.next HB1.out hb)
      have HD4 := Lib.hid (HD1.out.next hb)
      clear hb HB1 HD1 c0
      by_cases hlt : q < p
      · have hz := HZ.out
        have hf := HF.out
        rw [show p - q = (p - (q + 1)) + 1 by omega] at hz hf
        rw [it_succ] at hz
        obtain ⟨r1, h1, h2⟩ := Option.bind_eq_some_iff.1 hz
        rw [ts_succ h1] at hf
        have HC := fun w hw => Lib.hid (HI.out r1 y w hw h1)
        have HX := fun w hw => xend_any l (some ⟨B, O, none⟩) c y w hw (by omega)
        rw [ex_more h1 (by omega)] at HX
        obtain ⟨g1', g2, g3⟩ := ex_drop_len h1 hy
        unfold onv at HX
        dsimp only at HX
        obtain ⟨v, hv⟩ : ∃ v, l.length - r1.length = v := ⟨_, rfl⟩
        rw [hv] at HX g1' g2
        rw [g1'] at h2 hf
        have hlen : dn.length + 1 + (wt d (l.drop y)).length ≤ 12300000 := by
         have := congrArg List.length hf
         simp only [List.length_cons, List.length_append] at this
         omega
        have HT : Hid (tx dn ++ ⟨#[32]⟩ ++ tx (wt d (l.drop y)) = tx (dn ++ 32 :: wt d (l.drop y))) := by
         show _ = _
         rw [show (⟨#[32]⟩ : ByteArray) = tx [32] from rfl, tx_append, tx_append]; simp
        have HF2 : Hid (dn ++ 32 :: wt d (l.drop y) ++ ts (wt d) (ex d) (p - (q + 1)) (l.drop v) = F) := by
         show _ = _
         rw [← hf]; simp
        have HZ2 := Lib.hid h2
        have hv2 : v ≤ l.length := by omega
        have zd : (tx dn).size = dn.length := tx_size _
        have zw : (tx (wt d (l.drop y))).size = (wt d (l.drop y)).length := tx_size _
        have gs1 : ¬ (tx dn).size + 1 > 9223372036854775807 := by omega
        have gs2 : ¬ (tx dn).size + 1 + (tx (wt d (l.drop y))).size > 9223372036854775807 := by omega
        have HC2 := Lib.hid HC; have HX2 := Lib.hid HX
        clear hz hf h1 h2 HZ HF g1' hv zd zw hlen HC HX
        generalize dn ++ 32 :: wt d (l.drop y) = dn2 at *
        generalize tx dn = td at *
        generalize tx (wt d (l.drop y)) = tw at *
        go_wp2_with (fail)
        refine (HC2.out _ (HN.out.next HB4.out)).out.mono ?_
        rintro e w5 ⟨rfl, hb⟩
        have HB5 := Lib.hid (Below.next HB4.out hb)
        have HD5 := Lib.hid (HD4.out.next hb)
        clear hb
        go_wp2_with (fail)
        refine (HX2.out _ (HN.out.next HB5.out)).mono ?_
        rintro e w6 ⟨rfl, hb⟩
        have HB6 := Lib.hid (Below.next HB5.out hb)
        have HD6 := Lib.hid (HD5.out.next hb)
        clear hb
        go_wp2_with (fail)
        go_roundw
        case rel => exact ⟨v, q + 1, dn2, by omega, hv2, by rw [← HT.out], by go_num, rfl, HZ2.out, HF2.out, HB6.out, HD6.out⟩
        case measure => simp [intOf]; omega
      · have HE : Hid (tx dn ++ ⟨#[41]⟩ = tx T) := HTX.out dn (by
         have := HF.out
         rw [show p - q = 0 by omega] at this
         rw [← this]
         exact (List.append_nil _).symm)
        have zd : (tx dn).size = dn.length := tx_size _
        have hdl : dn.length ≤ 12300000 := by
         have := congrArg List.length HF.out
         rw [List.length_append] at this
         omega
        have gs1 : ¬ (tx dn).size + 1 > 9223372036854775807 := by omega
        clear HF HZ zd hdl
        generalize tx dn = td at *
        go_wp2_with (fail)
        go_ret
        exact ⟨ret_str HE.out, HB4.out⟩
end Go.Proofs.YtimllihegnokeaaGreatDoor.Ex

/-
  A text of this claim: DkCopy.
-/
import Derived.Test.YtfcicjehgdfniaaQDkWrite
import Derived.Test.YtfcicjehgdfniaaQ1
import Derived.Lib.SliceRun
import Derived.Carry
namespace Go.Proofs.Ytfcicjehgdfniaa.Dk
open Go.ChangeShapes Go.WideShapes Go.ChangeAt Go.RowKit Go.ChangeMaps Go.Maps Go.MapKept Ov
theorem hd_own {w : World} {base : Nat} {v : Value} {s : List UInt8} (h : w.ownsRow base 5 1 v s.length (vals s)) : Hd w v s ∧ ∀ b, lies v b → base ≤ b := by
 rcases h.2 with ⟨rfl, h0⟩ | ⟨g, cap, cur, rfl, hb, hg, hnc, _⟩
 · have hs : s = [] := List.eq_nil_of_length_eq_zero h0
   subst hs
   exact ⟨⟨none, 0, rfl, Nat.le_refl _, fun h => absurd rfl h⟩, fun b ⟨n, c, e⟩ => by cases e⟩
 · refine ⟨⟨_, cap, rfl, hnc, fun _ => ⟨g, rfl, fun j hj => ?_, fun j _ => h.frozenAt j⟩⟩, fun b hl => ?_⟩
   · rw [h.cellAt j (by omega)]; exact vals_get s j hj
   · rw [lies_at hl]; exact hb
def CloneQ (s : List UInt8) (w : World) (e : Ending) (w' : World) : Prop := ∃ v', e = .returned v' ∧ Hd w' v' s ∧ (∀ b, lies v' b → w.heap.size ≤ b) ∧ Below w.heap.size w w'
set_option maxHeartbeats 2000000 in
set_option maxRecDepth 100000 in
theorem sclone8_any {w : World} {v : Value} {s : List UInt8} (h : Hd w v s) (hs : s.length ≤ 4194304) : Calls Try.prog 29 #[v] w (CloneQ s w) := by
 obtain ⟨p, c, rfl, hc, hr⟩ := h
 have q55 : ∀ (w : World) (a : Option Addr) (n c n' c' : Nat), (binOp .eql 55 (.slice a n c) (.slice none n' c')).run Try.prog w = .ok (.bool a.isNone) w := fun w a n c n' c' => Lib.run_eql_slice_nil w _ _ a n c n' c' Try.underlying55
 cases p with
 | none =>
   have hs0 : s = [] := by
    cases s with
    | nil => rfl
    | cons x r => obtain ⟨b, e, _⟩ := hr (by simp); cases e
   subst hs0
   go_enter Try.func29, Try.ntmps29
   go_wp2_with (fail)
   go_ret
   exact ⟨_, rfl, ⟨none, 0, rfl, Nat.le_refl _, fun h => absurd rfl h⟩, (fun b ⟨n, c, e⟩ => by cases e), Below.refl _ _⟩
 | some a =>
   obtain ⟨i8, hi, hz0, hz1, hz2⟩ := info_parts info8
   have hnews : ∀ j u, (vals s)[j]? = some u → (w.alloc (.cells #[] 5)).cell? (a.add j) = some u := fun j u hj => by
    have hj' : j < s.length := by have := (List.getElem?_eq_some_iff.1 hj).1; simpa [vals] using this
    obtain ⟨b, e, hb⟩ := hr (fun e => by rw [e] at hj'; cases hj')
    injection e with e; subst e
    rw [Go.WideShapes.add_plain, Nat.zero_add]
    have := hb.cell j hj'
    rw [vals_get s j hj'] at hj
    injection hj with hj; subst hj
    exact ((box1 w (.cells #[] 5)).cell (p := ⟨b, j, none⟩) (block_lt_of_cell this)).trans this
   have hone : ∀ u ∈ vals s, u.oneCell' = true := fun u hu => by obtain ⟨x, _, rfl⟩ := List.mem_map.1 hu; rfl
   have hvl : (vals s).length = s.length * 1 := by simp [vals]
   have HN := Lib.hid hnews
   clear hr hnews
   go_enter Try.func29, Try.ntmps29
   go_wp2_with (at_builtin; refine wpList_append_own _ rfl _ _ 55 rfl w.heap.size 5 i8 (.int .u8 0) 1 1 Try.underlying55 hi hz0 hz1 hz2 rfl (by decide) _ _ _ rfl (World.ownsRow_made w #[] 0 (Nat.le_refl _) (Nat.zero_le _) rfl) a s.length c (vals s) rfl hvl HN.out hone (by unfold maxLen; omega) (by omega) (by simp) ?_)
   intro v' w1 hown hgrow hnil
   have HO : Hid (w1.ownsRow w.heap.size 5 1 v' s.length (vals s)) := Lib.hid (by simpa using hown)
   have HB : Hid (Below w.heap.size w w1) := Lib.hid ((box1 w (.cells #[] 5)).grown hgrow (by simp) (by intro k hk; simp [Value.ownBlock] at hk; omega))
   clear hown hgrow hnil HN
   go_wp2_with (fail)
   go_ret
   exact ⟨v', rfl, (hd_own HO.out).1, (hd_own HO.out).2, HB.out⟩
theorem below_grown {w w' : World} (h : Below w.heap.size w w') : w.grownBy w' none := ⟨h.os, h.tape, h.output, h.size, fun i hi _ => h.block i hi⟩
structure CpAt (w : World) (E : List Et) (m m2 r n : Nat) (left : Lit → Bool) (cnt : Nat) (E2 : List Et) (wr : World) : Prop where
 g : wr.ranges Try.prog 9 RV m r n (dm (mp (·.2) E)) left cnt
 o : wr.ownsMap Try.prog 9 RV m2 E2.length (dm (mp (·.2) E2))
 e : ∀ x ∈ E2, Hd wr x.2.2 x.2.1
 lo : ∀ x ∈ E2, ∀ b, lies x.2.2 b → w.heap.size ≤ b
 p : E2.Pairwise fun x y => ∀ b, lies x.2.2 b → ¬ lies y.2.2 b
 s : Srt E2
 t : ∀ a q, gt a (mp (·.1) E2) = some q ↔ (gt a (mp (·.1) E) = some q ∧ left (.string a) = false)
 b : Below w.heap.size w wr
theorem gt_ext {L L' : List (List UInt8 × List UInt8)} (h : Srt L) (h' : Srt L') (hg : ∀ a q, gt a L = some q ↔ gt a L' = some q) : L = L' :=
 srt_ext h h' fun x => ⟨fun hx => gt_some ((hg x.1 x.2).1 (gt_mem h hx)), fun hx => gt_some ((hg x.1 x.2).2 (gt_mem h' hx))⟩
def CopyQ (sz : Nat) (L : List (List UInt8 × List UInt8)) (w : World) (e : Ending) (w' : World) : Prop :=
 ∃ d O, e = .returned (.pointer (some ⟨d, 0, none⟩)) ∧ IsD w' O d sz L ∧ (∀ b, O b → w.heap.size ≤ b) ∧ Below w.heap.size w w'
theorem CpAt.more {w wr w3 : World} {E E2 : List Et} {m m2 r n cnt' : Nat} {left : Lit → Bool} {a s : List UInt8} {c v : Value} (hr : wr.ranges Try.prog 9 RV m r n (dm (mp (·.2) E)) (fun z => left z && !z.sameKey (.string a)) cnt')
 (ho : wr.ownsMap Try.prog 9 RV m2 E2.length (dm (mp (·.2) E2))) (he : ∀ x ∈ E2, Hd wr x.2.2 x.2.1) (hlo : ∀ x ∈ E2, ∀ b, lies x.2.2 b → w.heap.size ≤ b) (hp : E2.Pairwise fun x y => ∀ b, lies x.2.2 b → ¬ lies y.2.2 b) (hs : Srt E2)
 (ht : ∀ a q, gt a (mp (·.1) E2) = some q ↔ (gt a (mp (·.1) E) = some q ∧ left (.string a) = false)) (hb : Below w.heap.size w wr) (hlk : left (.string a) = true) (hg : gt a E = some (s, c)) (ha : a.length ≤ 64)
 (k : Below wr.heap.size wr w3) (hv : Hd w3 v s) (hn : ∀ b, lies v b → wr.heap.size ≤ b) (hlen : E2.length ≤ 262144) (hmm : m2 ≠ m) (hmr : m2 ≠ r) (hm2 : w.heap.size ≤ m2) :
 ∃ W', (Instr.mapUpdate 51 (.map (some m2)) (.string (tx a)) v).run Try.prog w3 = .ok () W' ∧ CpAt w E m m2 r n (fun z => left z && !z.sameKey (.string a)) cnt' (pt a (s, v) E2) W' := by
 have ho3 := owns_kp ho (Below.kp (fun _ => False) k) (fun h => h)
 have hat : (tx a).size ≤ maxLen := by rw [tx_size]; unfold maxLen; omega
 have hkey := key_s (tx a) hat
 rw [tx_list] at hkey
 obtain ⟨W', hrun, hown, hturn⟩ := ho3.store lawS Try.underlying51 (Nat.lt_of_le_of_lt hlen (by unfold maxLen; omega)) hkey (show RV v = some (.held v, []) from rfl)
 refine ⟨W', hrun, ?_⟩
 have hk : Kp (fun b => b = m2) w3 W' := Kp.turned rfl hturn
 have hsz := hb.size
 have hkb := k.size
 refine ⟨(hr.kept (below_grown k) (by simp) (by simp)).kept hturn.grown (fun e => hmm (by injection e with e; exact e.symm)) (fun e => hmr (by injection e with e; exact e.symm)), ?_, fun x hx => ?_, fun x hx b hl => ?_, ?_, srt_pt hs _ _, fun a' q => ?_, ?_⟩
 · rw [dm_put, mp_pt (·.2) a (s, v) E2] at hown
   exact owns_len hown
 · rcases mem_pt.1 hx with rfl | ⟨hx, _⟩
   · exact hv.kp hk fun b hb => ne_map ho3 hv hb
   · have h3 := (he x hx).kp (Below.kp (fun _ => False) k) fun _ _ h => h
     exact h3.kp hk fun b hb => ne_map ho3 h3 hb
 · rcases mem_pt.1 hx with rfl | ⟨hx, _⟩
   · exact Nat.le_trans hsz (hn b hl)
   · exact hlo x hx b hl
 · unfold pt
   refine ((ins_perm _ _ _).pairwise_iff (fun {x y} hxy b hb hc => hxy b hc hb)).2 (List.pairwise_cons.2 ⟨fun x hx b hb hc => ?_, hp.sublist List.filter_sublist⟩)
   have := hn b hb
   have := (he x (mem_rm.1 hx).1).lt hc
   omega
 · rw [← mp_pt (·.1) a (s, v) E2, gt_pt _ _ _ _ (srt_mp.2 hs)]
   by_cases e : a' = a
   · subst e
     rw [if_pos rfl]
     have h1 : gt a' (mp (·.1) E) = some s := by rw [gt_L, hg]; rfl
     have h2 : (left (.string a') && !(Lit.string a').sameKey (.string a')) = false := by simp [Lit.sameKey]
     rw [h1]
     constructor
     · intro h; exact ⟨h, h2⟩
     · intro h; exact h.1
   · rw [if_neg e, ht a' q]
     have h2 : (left (.string a') && !(Lit.string a').sameKey (.string a)) = left (.string a') := by
      have : (Lit.string a').sameKey (.string a) = false := by show (a' == a) = false; exact beq_eq_false_iff_ne.2 e
      rw [this]; simp
     show _ ↔ (_ ∧ (left (.string a') && !(Lit.string a').sameKey (.string a)) = false)
     rw [h2]
 · exact (hb.trans (k.mono hsz)).trans (hk.below (fun b e => by rw [e]; exact hm2) (Nat.le_trans hsz hkb))
theorem run_makeMapN (n : Nat) (w : World) : (Instr.makeMap 51 (some (.int .i64 (n : Int)))).run Try.prog w = .ok (.map (some w.heap.size)) (w.alloc (.map #[] 0)) := by
 simp [Instr.makeMap, run_underlying Try.underlying51, asInt, newObj, Result.andThen]
 rfl
set_option maxHeartbeats 8000000 in
set_option maxRecDepth 100000 in
theorem copy_any {O : Nat → Prop} {d sz : Nat} {L : List (List UInt8 × List UInt8)} (w : World) (h : IsD w O d sz L) :
 Calls Try.prog 18 #[.pointer (some ⟨d, 0, none⟩)] w (CopyQ sz L w) := by
 obtain ⟨m, E, h, rfl⟩ := h
 have c0 := h.h.c 0 _ rfl
 have c1 := h.h.c 1 _ rfl
 have hlen : ∀ ty, (Builtin.len_ #[51] ty #[.map (some m)]).run Try.prog w = .ok (.int .i64 (E.length : Int)) w := fun ty => by
  have := h.o.len Try.underlying51 ty
  rw [dm_size, show (mp (·.2) E).length = E.length by simp [mp]] at this
  exact this
 have hElen := h.len
 have H := Lib.hid h
 clear h
 have hmm := run_makeMapN E.length w
 go_enter Try.func18, Try.ntmps18
 go_upto_region 4 with (fail)
 clear hlen hmm
 have HB1 := Lib.hid (box1 w (.map #[] 0))
 have HM2 := Lib.hid (World.ownsMap_made w Try.prog 9 RV)
 have hdk := H.out.next HB1.out
 have d1 := hdk.h.c 1 _ rfl
 have ho := hdk.o
 obtain ⟨m2, hm2⟩ : ∃ m2, w.heap.size = m2 := ⟨_, rfl⟩
 have HMM : Hid (m2 ≠ m) := Lib.hid (by have := H.out.lt m H.out.om; omega)
 have hs1 : (w.alloc (.map #[] 0)).heap.size = m2 + 1 := by simp; exact hm2
 have HSS := Lib.hid hs1
 have HWM := Lib.hid hm2
 rw [hm2] at HM2 ⊢
 generalize w.alloc (.map #[] 0) = w1 at *
 clear hs1 hm2 hdk c0 c1
 go_wp2_with (first
  | (at_range; refine wpList_range_own _ rfl _ 51 rfl 9 55 lawS Try.underlying51 RV m _ _ rfl ho ?_; intro w0 hrg0 hg0 hs0)
  | fail)
 go_frame
 have HB0 : Hid (Below w.heap.size w w0) := Lib.hid (HB1.out.grown hg0 HB1.out.size (fun k e => by cases e))
 have HRG0 := Lib.hid hrg0
 have HM0 : Hid (w0.ownsMap Try.prog 9 RV m2 0 (.map [])) := Lib.hid (HM2.out.kept hg0 (by simp))
 clear hrg0 hg0 hs0 d1 ho HM2 HB1
 have HMR : Hid (m2 ≠ m2 + 1) := Lib.hid (by omega)
 have HML : Hid (w.heap.size ≤ m2) := Lib.hid (by have := HWM.out; omega)
 have HRL : Hid (w.heap.size ≤ m2 + 1) := Lib.hid (by have := HWM.out; omega)
 rw [HSS.out] at HRG0 ⊢
 generalize m2 + 1 = r at *
 obtain ⟨n, hn⟩ : ∃ n, E.length = n := ⟨_, rfl⟩
 rw [hn] at HRG0 hElen
 have HN := Lib.hid hn
 clear hn HSS
 go_loopw [] (fun wr => ∃ (left : Lit → Bool) (cnt : Nat) (E2 : List Et), CpAt w E m m2 r n left cnt E2 wr ∧ E2.length + cnt ≤ n) (fun wr => wr.rangeLeft m r)
 case atStart =>
  refine ⟨_, _, [], ⟨HRG0.out, HM0.out, (fun x hx => by cases hx), (fun x hx => by cases hx), .nil, .nil, fun a q => ?_, HB0.out⟩, by rw [dm_size, show (mp (·.2) E).length = E.length by simp [mp], HN.out]; simp⟩
  rw [show gt a (mp (·.1) ([] : List Et)) = none from rfl, dm_has, mp_gt, mp_gt]
  cases gt a E with
  | none => simp
  | some y => simp
 case round =>
  clear HRG0 HM0 HB0
  obtain ⟨left, cnt, E2, hC, hcn⟩ := hrel
  have HC := Lib.hid hC
  have hrg := hC.g
  clear hC
  go_wp2_with (first
   | (at_next; refine wpList_next_ranges _ rfl _ rfl 9 lawS RV encStr id (fun key kl hk => by obtain ⟨x, hx, _⟩ := Maps.keyOf_str Try.underlying9 hk; exact ⟨x, hx⟩) (fun v _ _ => ⟨v, rfl⟩) m r n _ _ _ rfl hrg ?_ ?_)
   | fail)
  · intro hc0 hl0
    have HEQ : Hid (mp (·.1) E2 = mp (·.1) E) := Lib.hid (gt_ext (srt_mp.2 HC.out.s) H.out.sL fun a q => by rw [HC.out.t a q]; simp [hl0])
    have hdk := H.out.next HC.out.b
    have c0 := hdk.h.c 0 _ rfl
    have HCO := HC
    clear hrg hc0 hl0 hdk hcn
    go_wp2_with (fail)
    go_ret
    refine ⟨wr.heap.size, fun b => w.heap.size ≤ b ∧ b < wr.heap.size + 1, rfl, ⟨m2, E2, ?_, HEQ.out⟩, fun b hb => hb.1, HC.out.b.alloc HC.out.b.size _⟩
    have hbx := box1 wr (.cells #[.int .i64 (sz : Int), .map (some m2)] 53)
    have hbs := HC.out.b.size
    refine ⟨Blk.made wr 53 [.int .i64 (sz : Int), .map (some m2)] rfl, HC.out.o.alloc _, fun x hx => (HC.out.e x hx).kp (Below.kp (fun _ => False) hbx) (fun _ _ h => h), ⟨hbs, Nat.lt_succ_self _⟩, ⟨HML.out, Nat.lt_succ_of_lt HC.out.o.lt⟩,
     fun x hx b hl => ⟨HC.out.lo x hx b hl, Nat.lt_succ_of_lt ((HC.out.e x hx).lt hl)⟩, HC.out.p, HC.out.s, by rw [HEQ.out]; exact H.out.u, H.out.z, fun x hx => ?_, fun b hb => by simpa using hb.2⟩
    have hx2 : (x.1, x.2.1) ∈ mp (·.1) E := by rw [← HEQ.out]; exact List.mem_map.2 ⟨x, hx, rfl⟩
    obtain ⟨y, hy, e⟩ := List.mem_map.1 hx2
    injection e with e _
    have := H.out.n y hy
    rw [e] at this
    exact this
  · intro x c kl yd yp w2 cnt2 hkey hlk hv hat hrg2 hlt hg2 hs2 hen
    obtain ⟨x', ex, rfl, _⟩ := Maps.keyOf_str Try.underlying9 hkey
    obtain rfl : x = x' := encStr_inj ex
    obtain ⟨s, hg⟩ := met_of hv hat
    have hE : Hd w c s := H.out.e _ (gt_some hg)
    have hxl : x.length ≤ 64 := (H.out.n _ (gt_some hg)).2
    have hsl : s.length ≤ 4194304 := by
     have h1 : x.length + s.length + 16 ≤ us (mp (·.1) E) := us_mem (List.mem_map.2 ⟨_, gt_some hg, rfl⟩ : (x, s) ∈ mp (·.1) E)
     have h2 := H.out.u; have h3 := H.out.z; omega
    have hB2 : Below w.heap.size w w2 := HC.out.b.grown hg2 HC.out.b.size (fun k e => by cases e; exact HRL.out)
    have hE2 : Hd w2 c s := hE.kp (Below.kp (fun _ => False) hB2) fun _ _ h => h
    have HCL := Lib.hid (sclone8_any hE2 hsl)
    have hkr : Kp (fun b => b = r) wr w2 := ⟨hg2.os, hg2.tape, hg2.output, hg2.size, fun k hk hn => hg2.block k hk fun e => hn (by cases e; rfl)⟩
    have hir : ∀ v q b, Hd wr v q → lies v b → b ≠ r := fun v q b hv hl e => by
     obtain ⟨es, clock, since, seen, cc, _, _, _, _, hr, _⟩ := hrg
     obtain ⟨z, h0⟩ : ∃ z, wr.cell? ⟨b, 0, none⟩ = some (.int .u8 z) := ⟨_, (hv.lies hl).1.cell 0 (List.length_pos_iff.2 (hv.lies hl).2)⟩
     rw [e] at h0
     unfold World.cell? at h0
     rw [hr] at h0
     cases h0
    have hmore := fun (w3 : World) (v : Value) (k : Below w2.heap.size w2 w3) (hv : Hd w3 v s) (hn : ∀ b, lies v b → w2.heap.size ≤ b) =>
     CpAt.more (w := w) (E := E) hrg2 (HC.out.o.kept hg2 (fun e => HMR.out (by injection e))) (fun y hy => (HC.out.e y hy).kp hkr fun b hb => hir _ _ b (HC.out.e y hy) hb) HC.out.lo HC.out.p HC.out.s HC.out.t hB2 hlk hg hxl k hv hn (by omega) HMM.out HMR.out HML.out
    have HMO := Lib.hid hmore
    have HLT : Hid (cnt2 < wr.rangeLeft m r) := Lib.hid (by rw [hrg.left_eq]; exact hlt)
    have HCN : Hid (∀ v, (pt x (s, v) E2).length + cnt2 ≤ n) := Lib.hid fun v => by
     have h1 : (pt x (s, v) E2).length ≤ E2.length + 1 := by
      have h2 : (rm x E2).length ≤ E2.length := List.length_filter_le _ _
      have h3 : (ins x (s, v) (rm x E2)).length = (rm x E2).length + 1 := (ins_perm x (s, v) (rm x E2)).length_eq
      show (ins x (s, v) (rm x E2)).length ≤ _
      omega
     omega
    have ex2 : encStr x = .string (tx x) := rfl
    rw [ex2] at hen ⊢
    change (Instr.entry (.pointer (some ⟨r, 0, none⟩))).run Try.prog w2 = .ok (.tuple #[.string (tx x), c]) w2 at hen
    clear hmore hir hkr hE hE2 hB2 hxl hsl hg hv hat hkey hlk hlt hg2 hs2 hrg2 hrg hcn ex ex2 HC
    go_wp2_with (fail)
    refine HCL.out.mono ?_
    rintro e w3 ⟨v', rfl, hv', hlo', hb3⟩
    obtain ⟨W', hmu, hcp⟩ := HMO.out w3 v' hb3 hv' hlo'
    have HCP := Lib.hid hcp
    clear hv' hlo' hb3 hcp HMO hen
    go_wp2_with (fail)
    go_roundw
    case rel => exact ⟨_, cnt2, _, HCP.out, HCN.out v'⟩
    case measure => rw [HCP.out.g.left_eq]; exact HLT.out
end Go.Proofs.Ytfcicjehgdfniaa.Dk

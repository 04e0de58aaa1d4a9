/-
  Small texts of this claim, together: DkCopies, DkCopiesL.
-/
import Derived.Test.YtfcicjehgdfniaaQDkKeeps
import Derived.Test.YtfcicjehgdfniaaQ2
import Derived.Test.YtfcicjehgdfniaaQDkCopy
import Derived.BigQuiet
namespace Go.Proofs.Ytfcicjehgdfniaa.Dk
open Go.ChangeShapes Go.WideShapes Go.ChangeAt Go.RowKit Go.ChangeMaps Go.Maps Go.MapKept Ov
def Many (w : World) (sz : Nat) (ds : List (Nat × Ls)) (wr : World) : Prop :=
 ∃ f : Nat → Nat → Prop, (∀ (i d : Nat) (L : Ls), ds[i]? = some (d, L) → IsD wr (f i) d sz L) ∧ (∀ i j, i ≠ j → ∀ b, f i b → ¬ f j b) ∧ (∀ i b, f i b → w.heap.size ≤ b ∧ b < wr.heap.size) ∧ Below w.heap.size w wr
section
variable {w wr w2 : World} {sz : Nat} {ds : List (Nat × Ls)}
theorem Many.bel (h : Many w sz ds wr) : Below w.heap.size w wr := by obtain ⟨f, _, _, _, h⟩ := h; exact h
theorem Many.next (h : Many w sz ds wr) (k : Below wr.heap.size wr w2) : Many w sz ds w2 := by
 obtain ⟨f, h1, h2, h3, h4⟩ := h
 exact ⟨f, fun i d L e => (h1 i d L e).next k, h2, fun i b hb => ⟨(h3 i b hb).1, Nat.lt_of_lt_of_le (h3 i b hb).2 k.size⟩, Below.next h4 k⟩
theorem Many.one {O : Nat → Prop} {d : Nat} {L : Ls} (h : IsD wr O d sz L) (hO : ∀ b, O b → w.heap.size ≤ b) (hb : Below w.heap.size w wr) : Many w sz [(d, L)] wr :=
 ⟨fun i b => i = 0 ∧ O b, fun i d' L' e => by
  match i, e with
  | 0, e =>
    injection e with e; injection e with e1 e2; subst e1; subst e2
    have : (fun b => 0 = 0 ∧ O b) = O := by funext b; simp
    dsimp only; rw [this]; exact h, fun i j hij b h1 h2 => hij (h1.1.trans h2.1.symm), fun i b hb => ⟨hO b hb.2, h.lt b hb.2⟩, hb⟩
theorem Many.get (h : Many w sz ds wr) {k d : Nat} {L : Ls} (hk : ds[k]? = some (d, L)) : ∃ O, IsD wr O d sz L ∧ ∀ w2 L', TurnsTo O d sz L' wr w2 → Many w sz (ds.set k (d, L')) w2 := by
 obtain ⟨f, h1, h2, h3, h4⟩ := h
 refine ⟨f k, h1 k d L hk, fun w2 L' ht => ?_⟩
 have hb := ht.below h4 fun b hb => (h3 k b hb).1
 obtain ⟨O', g1, g2, g3⟩ := ht
 have hkl : k < ds.length := (List.getElem?_eq_some_iff.1 hk).1
 refine ⟨fun i b => if i = k then O' b else f i b, fun i d' L'' e => ?_, fun i j hij b hi hj => ?_, fun i b hi => ?_, hb⟩
 · by_cases hik : i = k
   · subst hik
     rw [List.getElem?_set_self hkl] at e
     injection e with e; injection e with e1 e2; subst e1; subst e2
     have : (fun b => if i = i then O' b else f i b) = O' := by funext b; simp
     dsimp only; rw [this]; exact g1
   · rw [List.getElem?_set_ne (fun e => hik e.symm)] at e
     have : (fun b => if i = k then O' b else f i b) = f i := by funext b; rw [if_neg hik]
     dsimp only; rw [this]
     exact (h1 i d' L'' e).kp g2 fun b => h2 i k hik b
 · dsimp only at hi hj
   by_cases hik : i = k
   · rw [if_pos hik] at hi
     rw [if_neg (fun e => hij (hik.trans e.symm))] at hj
     rcases g3 b hi with h | h
     · exact h2 k j (fun e => hij (hik.trans e)) b h hj
     · have := (h3 j b hj).2; omega
   · rw [if_neg hik] at hi
     by_cases hjk : j = k
     · rw [if_pos hjk] at hj
       rcases g3 b hj with h | h
       · exact h2 i k hik b hi h
       · have := (h3 i b hi).2; omega
     · rw [if_neg hjk] at hj
       exact h2 i j hij b hi hj
 · dsimp only at hi
   by_cases hik : i = k
   · rw [if_pos hik] at hi
     refine ⟨?_, g1.lt b hi⟩
     rcases g3 b hi with h | h
     · exact (h3 k b h).1
     · exact Nat.le_trans h4.size h
   · rw [if_neg hik] at hi
     exact ⟨(h3 i b hi).1, Nat.lt_of_lt_of_le (h3 i b hi).2 g2.size⟩
theorem Many.add (h : Many w sz ds wr) {O : Nat → Prop} {d : Nat} {L : Ls} (hi : IsD w2 O d sz L) (hO : ∀ b, O b → wr.heap.size ≤ b) (k : Below wr.heap.size wr w2) : Many w sz (ds ++ [(d, L)]) w2 := by
 obtain ⟨f, h1, h2, h3, h4⟩ := h
 refine ⟨fun i b => if i < ds.length then f i b else i = ds.length ∧ O b, fun i d' L'' e => ?_, fun i j hij b hi' hj => ?_, fun i b hi' => ?_, Below.next h4 k⟩
 · by_cases hil : i < ds.length
   · rw [List.getElem?_append_left hil] at e
     have : (fun b => if i < ds.length then f i b else i = ds.length ∧ O b) = f i := by funext b; rw [if_pos hil]
     dsimp only; rw [this]
     exact (h1 i d' L'' e).next k
   · rw [List.getElem?_append_right (by omega)] at e
     have hie : i = ds.length := by
      by_cases q : i - ds.length = 0
      · omega
      · rw [List.getElem?_eq_none (by simp; omega)] at e; cases e
     subst hie
     rw [Nat.sub_self] at e
     injection e with e; injection e with e1 e2; subst e1; subst e2
     have : (fun b => if ds.length < ds.length then f ds.length b else ds.length = ds.length ∧ O b) = O := by funext b; simp
     dsimp only; rw [this]; exact hi
 · dsimp only at hi' hj
   by_cases hil : i < ds.length
   · rw [if_pos hil] at hi'
     by_cases hjl : j < ds.length
     · rw [if_pos hjl] at hj; exact h2 i j hij b hi' hj
     · rw [if_neg hjl] at hj
       have := (h3 i b hi').2; have := hO b hj.2; omega
   · rw [if_neg hil] at hi'
     by_cases hjl : j < ds.length
     · rw [if_pos hjl] at hj
       have := (h3 j b hj).2; have := hO b hi'.2; omega
     · rw [if_neg hjl] at hj; omega
 · dsimp only at hi'
   by_cases hil : i < ds.length
   · rw [if_pos hil] at hi'
     exact ⟨(h3 i b hi').1, Nat.lt_of_lt_of_le (h3 i b hi').2 k.size⟩
   · rw [if_neg hil] at hi'
     exact ⟨Nat.le_trans h4.size (hO b hi'.2), hi.lt b hi'.2⟩
end
theorem strs_own {w : World} {base n c : Nat} {A : Option Addr} {L : Ls} (h : w.ownsRow base 9 1 (.slice A n c) L.length (nms L)) (hn : n = L.length) : Strs w A n (fun i => tx (L.getD i ([], [])).1) := fun h0 => by
 subst hn
 rcases h.2 with ⟨_, e⟩ | ⟨g, cap, cur, e, _⟩
 · omega
 · injection e with e1 e2 e3
   subst e1; subst e3
   refine ⟨g, 0, rfl, fun i hi => ?_⟩
   rw [Nat.zero_add, h.cellAt i (by omega), nms_at L i hi]
   simp [List.getD, hi]
theorem done_many {w wr : World} {sz : Nat} {ds : List (Nat × Ls)} (h : Many w sz ds wr) {k d : Nat} {L : Ls} (hk : ds[k]? = some (d, L)) (x : Ac) (hx : x.n.size ≤ 20000 ∧ x.s.size ≤ 20000) :
 Calls Try.prog 12 #[.pointer (some ⟨d, 0, none⟩), .agg #[.int .u8 (x.o.toNat : Int), .string x.n, .string x.s, .int .i64 x.i, .int .u8 (x.b.toNat : Int)]] wr fun e w2 =>
  e = .returned (.tuple #[.string (tx (stp sz L x).2.1), .int .i64 (stp sz L x).2.2]) ∧ Many w sz (ds.set k (d, (stp sz L x).1)) w2 := by
 obtain ⟨O, hi, ht⟩ := h.get hk
 exact (done_any x (Nat.le_trans hx.1 (by unfold maxLen; omega)) (Nat.le_trans hx.2 (by omega)) wr hi).mono fun e w2 hq => ⟨hq.1, ht w2 _ hq.2⟩
theorem copy_many {w wr : World} {sz : Nat} {ds : List (Nat × Ls)} (h : Many w sz ds wr) {k d : Nat} {L : Ls} (hk : ds[k]? = some (d, L)) :
 Calls Try.prog 18 #[.pointer (some ⟨d, 0, none⟩)] wr fun e w2 => ∃ d', e = .returned (.pointer (some ⟨d', 0, none⟩)) ∧ Many w sz (ds ++ [(d', L)]) w2 := by
 obtain ⟨O, hi, _⟩ := h.get hk
 exact (copy_any wr hi).mono fun e w2 ⟨d', O', he, h1, h2, h3⟩ => ⟨d', he, h.add h1 h2 h3⟩
theorem room_many {w wr : World} {sz : Nat} {ds : List (Nat × Ls)} (h : Many w sz ds wr) {k d : Nat} {L : Ls} (hk : ds[k]? = some (d, L)) :
 Calls Try.prog 13 #[.pointer (some ⟨d, 0, none⟩)] wr (Gives (.int .i64 ((sz - us L : Nat) : Int)) wr) := by
 obtain ⟨O, hi, _⟩ := h.get hk; exact room_any wr hi
theorem names_many {w wr : World} {sz : Nat} {ds : List (Nat × Ls)} (h : Many w sz ds wr) {k d : Nat} {L : Ls} (hk : ds[k]? = some (d, L)) :
 Calls Try.prog 17 #[.pointer (some ⟨d, 0, none⟩)] wr fun e w2 => ∃ A c, e = .returned (.slice A L.length c) ∧ Strs w2 A L.length (fun i => tx (L.getD i ([], [])).1) ∧ Below wr.heap.size wr w2 ∧ L.length ≤ 262144 := by
 obtain ⟨O, hi, _⟩ := h.get hk
 have hl : L.length ≤ 262144 := by obtain ⟨m, E, h, rfl⟩ := hi; simpa [mp] using h.len
 exact (names_any wr hi).mono fun e w2 ⟨v, he, ho, hb⟩ => by
  obtain ⟨A, c, rfl, _⟩ := own_slice ho
  exact ⟨A, c, he, strs_own ho rfl, hb, hl⟩
def sts (sz : Nat) (l : List Ac) (L : Ls) (j : Nat) : Ls := (l.take j).foldl (fun L x => (stp sz L x).1) L
theorem sts_more {sz : Nat} {l : List Ac} {L : Ls} {j : Nat} (h : j < l.length) : sts sz l L (j + 1) = (stp sz (sts sz l L j) (ad l j)).1 := by
 unfold sts
 rw [List.take_succ_eq_append_getElem h, List.foldl_append, ad_at h]; rfl
theorem len_stp (sz : Nat) (L : Ls) (x : Ac) : (stp sz L x).1.length ≤ L.length + 1 := by
 unfold stp
 split
 · show L.length ≤ _; omega
 split
 · have h2 : (rm x.n.data.toList L).length ≤ L.length := List.length_filter_le _ _
   show (rm x.n.data.toList L).length ≤ _
   omega
 split
 · show ((spo x.n.data.toList x.i x.b L).getD L).length ≤ _
   unfold spo
   split
   · split
     · show L.length ≤ _; omega
     · simp
   · show L.length ≤ _; omega
 split
 · simp
 · show (wrt sz x.n.data.toList x.s.data.toList L).2.length ≤ _
   unfold wrt
   split
   · show L.length ≤ _; omega
   split
   · show L.length ≤ _; omega
   · have h1 := (ins_perm x.n.data.toList x.s.data.toList (rm x.n.data.toList L)).length_eq
     have h3 : (rm x.n.data.toList L).length ≤ L.length := List.length_filter_le _ _
     show (ins _ _ (rm _ L)).length ≤ _
     rw [h1]; simp only [List.length_cons]; omega
set_option maxHeartbeats 2000000 in
set_option maxRecDepth 100000 in
theorem same_yes (A B : Option Addr) (n c c' : Nat) (t : Nat → ByteArray) (w : World) (hA : Strs w A n t) (hB : Strs w B n t) (hn : n ≤ 1000000) : Calls Try.prog 16 #[.slice A n c, .slice B n c'] w (Gives (.bool true) w) := by
 have HA := Lib.hid hA; have HB := Lib.hid hB
 clear hA hB
 go_enter Try.func16, Try.ntmps16
 go_wp2_with (fail)
 go_loopw [5] (fun I wr => ∃ i m : Nat, i ≤ n ∧ I = .int .i64 (i : Int) ∧ wr = w.drewN m) (fun I _ => n - (intOf I).toNat)
 case atStart => exact ⟨0, 0, by omega, rfl, rfl⟩
 case round =>
  obtain ⟨i, m, hi, rfl, rfl⟩ := hrel
  by_cases hlt : i < n
  · have hltz : (i : Int) < (n : Int) := by omega
    obtain ⟨G, O, rfl, hc⟩ := HA.out (by omega)
    obtain ⟨G2, O2, rfl, hc2⟩ := HB.out (by omega)
    have a0 : (w.drewN m).cell? ⟨G, O + i, none⟩ = some (.string (t i)) := hc i hlt
    have b0 : (w.drewN m).cell? ⟨G2, O2 + i, none⟩ = some (.string (t i)) := hc2 i hlt
    have tt : ((t i).toList == (t i).toList) = true := beq_self_eq_true _
    clear hc hc2
    generalize t i = ti at *
    generalize hwo : w.drewN m = wo at *
    have HWO := Lib.hid hwo; clear hwo
    go_wp2_with (fail)
    go_quiet (fail)
    go_wp2_with (fail)
    go_roundw
    case rel => exact ⟨i + 1, m + _, by omega, by go_num, by rw [← HWO.out, World.drewN_drewN]⟩
    case measure => simp [intOf]; omega
  · obtain rfl : i = n := by omega
    have HBB := Lib.hid (below_drewN (Below.refl w.heap.size w) m)
    go_wp2_with (fail)
    go_ret
    exact ⟨rfl, HBB.out⟩
theorem get_act {w wr : World} {G Q : Nat} {l : List Ac} (h : Acs w (some ⟨G, Q, none⟩) l) (k : Below w.heap.size w wr) {i : Nat} (hi : i < l.length) :
 wr.cell? ⟨G, Q + i * 5, none⟩ = some (.int .u8 ((ad l i).o.toNat : Int)) ∧ wr.cell? ⟨G, Q + i * 5 + 1, none⟩ = some (.string (ad l i).n) ∧ wr.cell? ⟨G, Q + i * 5 + 2, none⟩ = some (.string (ad l i).s) ∧
  wr.cell? ⟨G, Q + i * 5 + 3, none⟩ = some (.int .i64 (ad l i).i) ∧ wr.cell? ⟨G, Q + i * 5 + 4, none⟩ = some (.int .u8 ((ad l i).b.toNat : Int)) := by
 have h' := h.old k
 have k0 := h'.cell hi 0 _ rfl
 rw [Nat.add_zero] at k0
 exact ⟨k0, h'.cell hi 1 _ rfl, h'.cell hi 2 _ rfl, h'.cell hi 3 _ rfl, h'.cell hi 4 _ rfl⟩
set_option maxHeartbeats 16000000 in
set_option maxRecDepth 100000 in
theorem copies_core (A B : Option Addr) (c1 c2 : Nat) (l more : List Ac) (w : World) (hA : Acs w A l) (hB : Acs w B more) :
 Calls Try.prog 5 #[.slice A l.length c1, .slice B more.length c2] w (Gives (.bool true) w) := by
 have HA := Lib.hid hA; have HB := Lib.hid hB
 have HAW := Lib.hid (awake_any w)
 clear hA hB
 go_enter Try.func5, Try.ntmps5
 go_wp2_with (fail)
 refine HAW.out.mono ?_
 rintro e w1 ⟨rfl, hb1⟩
 have HB1 := Lib.hid hb1
 have HF := Lib.hid (few_any A c1 l w1 (HA.out.old hb1))
 clear hb1 HAW
 go_wp2_with (fail)
 refine HF.out.mono ?_
 rintro e w2 ⟨q, rfl, hb2, hq⟩
 have HB2 := Lib.hid (Below.next HB1.out hb2)
 have HQ := Lib.hid hq
 clear hb2 hq HF HB1
 cases q with
 | false =>
   go_wp2_with (fail)
   refine (awake_any w2).mono ?_
   rintro e w3 ⟨rfl, hb⟩
   have HB3 := Lib.hid (Below.next HB2.out hb)
   clear hb
   go_wp2_with (fail)
   go_ret
   exact ⟨rfl, HB3.out⟩
 | true =>
   have HL := Lib.hid (HQ.out rfl)
   have HF2 := Lib.hid (few_any B c2 more w2 (HB.out.old HB2.out))
   clear HQ
   go_wp2_with (fail)
   refine HF2.out.mono ?_
   rintro e w3 ⟨q, rfl, hb3, hq⟩
   have HB3 := Lib.hid (Below.next HB2.out hb3)
   have HQ := Lib.hid hq
   clear hb3 hq HF2 HB2
   cases q with
   | false =>
     go_wp2_with (fail)
     refine (awake_any w3).mono ?_
     rintro e w4 ⟨rfl, hb⟩
     have HB4 := Lib.hid (Below.next HB3.out hb)
     clear hb
     go_wp2_with (fail)
     go_ret
     exact ⟨rfl, HB4.out⟩
   | true =>
     have HM := Lib.hid (HQ.out rfl)
     have HNW := Lib.hid (new_yes 5000 (by decide) w3)
     clear HQ
     go_wp2_with (fail)
     refine HNW.out.mono ?_
     rintro e w4 ⟨rfl, h4, hb4⟩
     obtain ⟨D, hD⟩ : ∃ D, w3.heap.size + 1 = D := ⟨_, rfl⟩
     rw [hD] at h4 ⊢
     have HY : Hid (Many w 5000 [(D, [])] w4) := Lib.hid (Many.one h4 (fun b hb => Nat.le_trans HB3.out.size (nO_lo hb)) (Below.next HB3.out hb4))
     clear h4 hb4 hD HNW HB3
     go_wp2_with (fail)
     go_loopg [7] l.length (fun kx s7 wr => ∃ (i : Nat) (L : Ls), i ≤ l.length ∧ l.length - i ≤ kx ∧ s7 = .int .i64 (i : Int) ∧ Hid (Many w 5000 [(D, L)] wr) ∧ Hid (L.length ≤ i))
     case atStart => exact ⟨0, [], by omega, by omega, rfl, HY, Lib.hid (Nat.le_refl _)⟩
     case round =>
      clear HY
      obtain ⟨i, L, hi, hkx, rfl, HY, HLL⟩ := hrel
      have hl100 := HL.out.1
      by_cases hlt : i < l.length
      · have hltz : (i : Int) < (l.length : Int) := by omega
        obtain ⟨G, Q, rfl⟩ := HA.out.shape (by omega)
        obtain ⟨k0, k1, k2, k3, k4⟩ := get_act HA.out HY.out.bel hlt
        have HD := Lib.hid (done_many HY.out (k := 0) rfl (ad l i) (HL.out.2 _ (ad_mem hlt)))
        have HLN := Lib.hid (len_stp 5000 L (ad l i))
        generalize ad l i = x at *
        obtain ⟨L2, hL2⟩ : ∃ L2, (stp 5000 L x).1 = L2 := ⟨_, rfl⟩
        rw [hL2] at HD HLN
        generalize (stp 5000 L x).2.1 = ans at *
        generalize (stp 5000 L x).2.2 = cod at *
        clear hL2
        go_wp2_with (fail)
        refine HD.out.mono ?_
        rintro e w5 ⟨rfl, hM⟩
        have HM5 : Hid (Many w 5000 [(D, L2)] w5) := Lib.hid hM
        clear hM k0 k1 k2 k3 k4 HD HY
        go_wp2_with (fail)
        go_roundg (l.length - (i + 1))
        case measure => omega
        case rel => exact ⟨i + 1, L2, by omega, Nat.le_refl _, by go_num, HM5, Lib.hid (by have := HLN.out; have := HLL.out; omega)⟩
      · have hltz : ¬ (i : Int) < (l.length : Int) := by omega
        have hL100 : L.length ≤ 100 := by have := HLL.out; omega
        have HCP := Lib.hid (copy_many HY.out (k := 0) rfl)
        clear HLL hkx hi hl100
        go_wp2_with (fail)
        refine HCP.out.mono ?_
        rintro e w5 ⟨C, rfl, hM⟩
        have HY5 : Hid (Many w 5000 [(D, L), (C, L)] w5) := Lib.hid hM
        have HN5 := Lib.hid (names_many HY5.out (k := 0) rfl)
        clear hM HCP HY
        go_wp2_with (fail)
        refine HN5.out.mono ?_
        rintro e w6 ⟨An, cn, rfl, _, hb6, _⟩
        have HY6 := Lib.hid (HY5.out.next hb6)
        have HR6 := Lib.hid (room_many HY6.out (k := 0) rfl)
        obtain ⟨rm0, hrm0⟩ : ∃ k : Nat, 5000 - us L = k := ⟨_, rfl⟩
        rw [hrm0] at HR6
        clear hb6 HY5 HN5 hrm0
        go_wp2_with (fail)
        refine HR6.out.mono ?_
        rintro e w7 ⟨rfl, hb7⟩
        have HY7 := Lib.hid (HY6.out.next hb7)
        clear hb7 HY6 HR6
        go_wp2_with (fail)
        go_loopg [11] more.length (fun kx s11 wr => ∃ (j : Nat), j ≤ more.length ∧ more.length - j ≤ kx ∧ s11 = .int .i64 (j : Int) ∧ Hid (Many w 5000 [(D, L), (C, sts 5000 more L j)] wr))
        case atStart => exact ⟨0, by omega, by omega, rfl, HY7⟩
        case round =>
         clear HY7
         obtain ⟨j, hj, hkx, rfl, HY⟩ := hrel
         have hm100 := HM.out.1
         by_cases hlt2 : j < more.length
         · have hltz2 : (j : Int) < (more.length : Int) := by omega
           obtain ⟨G, Q, rfl⟩ := HB.out.shape (by omega)
           obtain ⟨k0, k1, k2, k3, k4⟩ := get_act HB.out HY.out.bel hlt2
           have HD := Lib.hid (done_many HY.out (k := 1) rfl (ad more j) (HM.out.2 _ (ad_mem hlt2)))
           rw [← sts_more hlt2] at HD
           generalize ad more j = x at *
           generalize (stp 5000 (sts 5000 more L j) x).2.1 = ans at *
           generalize (stp 5000 (sts 5000 more L j) x).2.2 = cod at *
           go_wp2_with (fail)
           refine HD.out.mono ?_
           rintro e w8 ⟨rfl, hM⟩
           have HM8 : Hid (Many w 5000 [(D, L), (C, sts 5000 more L (j + 1))] w8) := Lib.hid hM
           clear hM k0 k1 k2 k3 k4 HD HY
           go_wp2_with (fail)
           go_roundg (more.length - (j + 1))
           case measure => omega
           case rel => exact ⟨j + 1, by omega, Nat.le_refl _, by go_num, HM8⟩
         · have hltz2 : ¬ (j : Int) < (more.length : Int) := by omega
           obtain rfl : j = more.length := by omega
           have HCP := Lib.hid (copy_many HY.out (k := 0) rfl)
           clear hkx hj hm100 hltz2 hlt2
           go_wp2_with (fail)
           refine HCP.out.mono ?_
           rintro e w8 ⟨E, rfl, hM⟩
           have HY8 : Hid (Many w 5000 [(D, L), (C, sts 5000 more L more.length), (E, L)] w8) := Lib.hid hM
           clear hM HCP HY
           go_wp2_with (fail)
           go_loopg [13] more.length (fun kx s13 wr => ∃ (j : Nat), j ≤ more.length ∧ more.length - j ≤ kx ∧ s13 = .int .i64 (j : Int) ∧ Hid (Many w 5000 [(D, sts 5000 more L j), (C, sts 5000 more L more.length), (E, sts 5000 more L j)] wr))
           case atStart => exact ⟨0, by omega, by omega, rfl, HY8⟩
           case round =>
            clear HY8
            obtain ⟨j, hj, hkx, rfl, HY⟩ := hrel
            have hm100 := HM.out.1
            by_cases hlt3 : j < more.length
            · have hltz3 : (j : Int) < (more.length : Int) := by omega
              obtain ⟨G, Q, rfl⟩ := HB.out.shape (by omega)
              obtain ⟨k0, k1, k2, k3, k4⟩ := get_act HB.out HY.out.bel hlt3
              have HKK := Lib.hid (fun W (hb : Below w.heap.size w W) => get_act (i := j) HB.out hb hlt3)
              have HX := Lib.hid (HM.out.2 _ (ad_mem hlt3))
              have HD := Lib.hid (done_many HY.out (k := 0) rfl (ad more j) HX.out)
              have HSM := Lib.hid (sts_more (sz := 5000) (L := L) hlt3)
              rw [← HSM.out] at HD
              generalize ad more j = x at *
              obtain ⟨ans, hans⟩ : ∃ ans, (stp 5000 (sts 5000 more L j) x).2.1 = ans := ⟨_, rfl⟩
              obtain ⟨cod, hcod⟩ : ∃ cod, (stp 5000 (sts 5000 more L j) x).2.2 = cod := ⟨_, rfl⟩
              rw [hans, hcod] at HD
              have HAN := Lib.hid hans; have HCO := Lib.hid hcod
              clear hans hcod
              go_wp2_with (fail)
              refine HD.out.mono ?_
              rintro e w9 ⟨rfl, hM⟩
              have HM9 : Hid (Many w 5000 [(D, sts 5000 more L (j + 1)), (C, sts 5000 more L more.length), (E, sts 5000 more L j)] w9) := Lib.hid hM
              clear hM k0 k1 k2 k3 k4 HD HY
              obtain ⟨k0, k1, k2, k3, k4⟩ := HKK.out w9 HM9.out.bel
              have HD := Lib.hid (done_many HM9.out (k := 2) rfl x HX.out)
              rw [← HSM.out, HAN.out, HCO.out] at HD
              go_wp2_with (fail)
              refine HD.out.mono ?_
              rintro e w10 ⟨rfl, hM⟩
              have HM10 : Hid (Many w 5000 [(D, sts 5000 more L (j + 1)), (C, sts 5000 more L more.length), (E, sts 5000 more L (j + 1))] w10) := Lib.hid hM
              have tans : ((tx ans).toList == (tx ans).toList) = true := beq_self_eq_true _
              have tcod : (cod == cod) = true := beq_self_eq_true _
              clear hM k0 k1 k2 k3 k4 HD HM9 HKK HX HSM HAN HCO
              go_wp2_with (fail)
              go_roundg (more.length - (j + 1))
              case measure => omega
              case rel => exact ⟨j + 1, by omega, Nat.le_refl _, by go_num, HM10⟩
            · have hltz3 : ¬ (j : Int) < (more.length : Int) := by omega
              obtain rfl : j = more.length := by omega
              clear hkx hj hm100 hlt3
              generalize sts 5000 more L more.length = L' at *
              have HN := Lib.hid (names_many HY.out (k := 1) rfl)
              go_wp2_with (fail)
              refine HN.out.mono ?_
              rintro e w9 ⟨A1, d1, rfl, hs1, hb9, hl9⟩
              have HY9 := Lib.hid (HY.out.next hb9)
              have HN2 := Lib.hid (names_many HY9.out (k := 0) rfl)
              have HS1 := Lib.hid hs1
              clear hs1 hb9 HN HY
              go_wp2_with (fail)
              refine HN2.out.mono ?_
              rintro e w10 ⟨A2, d2, rfl, hs2, hb10, _⟩
              have HY10 := Lib.hid (HY9.out.next hb10)
              have HST := Lib.hid (same_yes A1 A2 L'.length d1 d2 _ w10 (HS1.out.old hb10) hs2 (by omega))
              clear hs2 hb10 HN2 HY9 HS1
              go_wp2_with (fail)
              refine HST.out.mono ?_
              rintro e w11 ⟨rfl, hb11⟩
              have HY11 := Lib.hid (HY10.out.next hb11)
              have HR := Lib.hid (room_many HY11.out (k := 1) rfl)
              obtain ⟨rm1, hrm1⟩ : ∃ k : Nat, 5000 - us L' = k := ⟨_, rfl⟩
              rw [hrm1] at HR
              clear hb11 HST HY10
              go_wp2_with (fail)
              refine HR.out.mono ?_
              rintro e w12 ⟨rfl, hb12⟩
              have HY12 := Lib.hid (HY11.out.next hb12)
              have HR2 := Lib.hid (room_many HY12.out (k := 0) rfl)
              rw [hrm1] at HR2
              clear hb12 HR HY11 hrm1
              go_wp2_with (fail)
              refine HR2.out.mono ?_
              rintro e w13 ⟨rfl, hb13⟩
              have HBE := Lib.hid (HY12.out.next hb13).bel
              have t100 : (L.length : Int) ≤ 100 := by omega
              have tr0 : (0 : Int) ≤ (rm0 : Int) := by omega
              clear hb13 HR2 HY12
              go_wp2_with (fail)
              go_ret
              exact ⟨rfl, HBE.out⟩
end Go.Proofs.Ytfcicjehgdfniaa.Dk

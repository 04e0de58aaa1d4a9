/-
  Calls that copy rows: besideOne, behind; a copy, as the walk wants it told.
-/
import Derived.Test.YtkgfkchdbbeljaaMxMake
import Derived.RegionTactic
import Derived.BigRegion
namespace Go.Proofs.Ytkgfkchdbbeljaa.Mx
open Go.ChangeShapes Go.WideShapes Go.ChangeAt Go.RowKit Go.Proofs.Ytkgfkchdbbeljaa.Gf

theorem size8 : (Try.prog.info? 5).map (·.size) = some 1 := by kernel_rfl
/-- L bytes are copied to the beginning of a row of one's own. -/
theorem copy_row {wr : World} {g m L b o c c' : Nat} {f : Nat → Value} {v : Nat → K} (h : wr.rowIs g 5 m f) (hs : ∀ j, j < L → wr.cell? ⟨b, o + j, none⟩ = some (.int .u8 ((v j).n : Int))) (hL : L ≤ m) :
    ∃ w2, (∀ ty, (Builtin.copy_ #[23, 23] ty #[.slice (some ⟨g, 0, none⟩) m c, .slice (some ⟨b, o, none⟩) L c']).run Try.prog wr = .ok (goInt L) w2) ∧ But g wr w2 ∧
      w2.rowIs g 5 m (fun j => if j < L then .int .u8 ((v j).n : Int) else f j) := by
  obtain ⟨cur, hg, hz, hf⟩ := h
  have hlen : ((List.range L).map fun j => Value.int .u8 ((v j).n : Int)).length = L := by simp
  have hadd : ∀ j, (⟨b, o, none⟩ : Addr).add j = ⟨b, o + j, none⟩ := fun j => by unfold Addr.add; split <;> simp_all
  have hrun : ∀ ty, _ := fun ty => run_copy_row (P := Try.prog) wr 23 23 ty 5 g 0 m c ⟨b, o, none⟩ L c' cur 5 ((List.range L).map fun j => Value.int .u8 ((v j).n : Int)) Try.underlying23 size8 hg
    (by rw [hlen]; exact (Nat.min_eq_left hL).symm) (fun j u hu => by
      rw [List.getElem?_map] at hu
      by_cases hj : j < L
      · rw [List.getElem?_range hj] at hu
        rw [hadd, hs j hj]; simpa using hu
      · rw [List.getElem?_eq_none (by simpa using hj)] at hu; simp at hu)
    (by rw [hlen]; omega) (fun u hu => by
      obtain ⟨j, _, rfl⟩ := List.mem_map.1 hu
      rfl)
  simp only [hlen] at hrun
  refine ⟨_, hrun, ⟨rfl, rfl, rfl, by simp [World.setRow], fun k hk => setRow_other wr g k _ hk⟩, ⟨_, setRow_heap wr g cur _ _ _ hg, ?_, fun j hj => ?_⟩⟩
  · simp; omega
  · simp only [List.take_zero, List.nil_append, Nat.zero_add]
    rw [List.getElem?_toArray]
    by_cases hl : j < L
    · rw [List.getElem?_append_left (by simpa using hl), if_pos hl, List.getElem?_map, List.getElem?_range hl]; rfl
    · rw [List.getElem?_append_right (by simpa using hl), if_neg hl, hlen, List.getElem?_drop, show L + (j - L) = j from by omega, Array.getElem?_toList]
      exact hf j hj
theorem Fil.turn {w : World} {B n m : Nat} {r : Nat → Nat} {x y : Nat → Nat → K} {wr w2 : World} (h : Fil w B n m r x wr) {i : Nat} (hi : i < n) {v : Nat → K} (k : But (r i) wr w2) (hr : w2.rowIs (r i) 5 m (fun j => .int .u8 ((v j).n : Int)))
    (e : ∀ a, a < n → ∀ b, b < m → updRow x i v a b = y a b) : Fil w B n m r y w2 :=
  ⟨(h.1.turn hi k hr).congr e, h.2.trans (k.below (h.1.los i hi))⟩
theorem beside_step (n k : Nat) (x : Nat → Nat → K) (a b : Nat) :
    upd (updRow (fillTo (wide n x) k 0) k (fun j => if j < n then x k j else fillTo (wide n x) k 0 k j)) k (n + k) 1 a b = fillTo (wide n x) (k + 1) 0 a b := by
  rw [← fill_rows]
  have hz : ∀ j, fillTo (wide n x) k 0 k j = 0 := fun j => if_neg (by omega)
  by_cases e : a = k
  · subst e
    rw [show updRow (fillTo (wide n x) a 0) a (wide n x a) a b = wide n x a b from if_pos rfl]
    by_cases e2 : b = n + a
    · rw [show ∀ y, upd y a (n + a) 1 a b = 1 from fun y => if_pos ⟨rfl, e2⟩]
      rw [wide, if_neg (by omega), if_pos e2]
    · rw [show ∀ y, upd y a (n + a) 1 a b = y a b from fun y => if_neg (fun q => e2 q.2)]
      rw [show ∀ y v, updRow y a v a b = v b from fun y v => if_pos rfl, hz]
      show (if b < n then x a b else 0) = _
      rw [wide]
      by_cases e3 : b < n
      · rw [if_pos e3, if_pos e3]
      · rw [if_neg e3, if_neg e3, if_neg e2]
  · rw [show ∀ y, upd y k (n + k) 1 a b = y a b from fun y => if_neg (fun q => e q.1)]
    rw [show ∀ y v, updRow y k v a b = y a b from fun y v => if_neg e, show ∀ y v, updRow y k v a b = y a b from fun y v => if_neg e]
def RelBs (w : World) (B n : Nat) (r : Nat → Nat) (x : Nat → Nat → K) (I : Value) (wr : World) : Prop := ∃ k : Nat, k ≤ n ∧ I = .int .i64 (k : Int) ∧ Fil w B n (2 * n) r (fillTo (wide n x) k 0) wr
set_option maxRecDepth 100000 in
set_option maxHeartbeats 1000000 in
theorem beside_any (P O n cn : Nat) (b o c : Nat → Nat) (x : Nat → Nat → K) (w : World) (hn : 0 < n) (hn' : n ≤ 64) (hM : Mat w P O n n b o c x) :
    Calls Try.prog 35 #[.slice (some ⟨P, O, none⟩) n cn] w (Made n (2 * n) (wide n x) w) := by
  have HM := Lib.hid hM; clear hM
  go_enter Try.func35, Try.ntmps35
  go_wp2_with fail
  have e2 : (2 : Int) * (n : Int) = ((2 * n : Nat) : Int) := by omega
  rw [e2]
  refine (blank_any n (2 * n) (by omega) (by omega) _).mono ?_
  rintro e w1 ⟨B, r, rfl, ho, hb⟩
  have HO : Hid (Fil w B n (2 * n) r (fillTo (wide n x) 0 0) w1) := ⟨ho.congr fun a _ b _ => (fill_start _ _ _).symm, hb⟩
  clear ho hb e2
  generalize hN : 2 * n = N at *
  have HN := Lib.hid hN; clear hN
  go_wp2_with fail
  go_loopw [15] (fun I wr => RelBs w B n r x I wr) (fun I _ => n - (intOf I).toNat)
  case atStart => exact ⟨0, by omega, rfl, by rw [HN.out]; exact HO.out⟩
  case round =>
    clear HO
    obtain ⟨k, hk, rfl, hF⟩ := hrel
    rw [HN.out] at hF
    have HF := Lib.hid hF; clear hF
    by_cases hlt : k < n
    · have cs := (HM.out.below HF.out.2).top k hlt
      have ct := HF.out.1.top.cell hlt
      obtain ⟨w2, hrun, hbut, hrow⟩ := copy_row (c := N) (c' := c k) (HF.out.1.row k hlt) (fun j hj => (HM.out.below HF.out.2).row k hlt j hj) (show n ≤ N by have := HN.out; omega)
      have ct2 : w2.cell? ⟨B, k, none⟩ = some (.slice (some ⟨r k, 0, none⟩) N N) := by rw [hbut.cell (p := ⟨B, k, none⟩) (HF.out.1.ne hlt)]; exact ct
      have cr := hrow.cell (i := n + k) (by have := HN.out; omega)
      rw [if_neg (by omega)] at cr
      have fr := hrow.frozen (n + k)
      have HS : Hid (Fil w B n N r (fillTo (wide n x) (k + 1) 0) (w2.setCell ⟨r k, n + k, none⟩ (.int .u8 1))) := by
        have hh := HF.out.turn hlt (v := fun j => if j < n then x k j else fillTo (wide n x) k 0 k j) hbut (hrow.congr fun j hj => by
          by_cases e : j < n
          · rw [if_pos e, if_pos e]
          · rw [if_neg e, if_neg e]) (fun a _ b _ => rfl)
        refine hh.set hlt (n + k) 1 fun a ha b hb => ?_
        exact beside_step n k x a b
      have k0 : (k : Int) < (n : Int) := by omega
      have HB := Lib.hid hbut; have HR := Lib.hid hrow
      clear hbut hrow
      have nk : (n : Int) + (k : Int) < (N : Int) := by have := HN.out; omega
      go_wp2
      go_roundw
      case rel => exact ⟨k + 1, by omega, by go_num, by rw [HN.out]; exact HS.out⟩
      case measure => simp [intOf]; omega
    · obtain rfl : k = n := by omega
      go_wp2
      go_ret
      exact ⟨B, r, rfl, HF.out.1.congr fun a ha b _ => fill_done _ _ _ _ ha, HF.out.2⟩
end Go.Proofs.Ytkgfkchdbbeljaa.Mx

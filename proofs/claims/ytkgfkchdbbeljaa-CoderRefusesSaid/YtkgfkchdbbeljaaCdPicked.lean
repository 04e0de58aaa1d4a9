/-
  What the laws of layer 3 call beside the program: picked, which pieces by numbers, each once.
-/
import Derived.Test.YtkgfkchdbbeljaaCdSum
namespace Go.Proofs.Ytkgfkchdbbeljaa.Cd
open Go.ChangeShapes Go.WideShapes Go.ChangeAt Go.RowKit Go.Proofs.Ytkgfkchdbbeljaa.Gf Go.Proofs.Ytkgfkchdbbeljaa.Mx

/-- The cells of pieces. -/
def pl (L : Nat) (z : Nat → Int) (u : Nat → ByteArray) : List Value := (List.range L).flatMap fun i => [Value.int .i64 (z i), Value.string (u i)]
theorem pl_succ (L : Nat) (z : Nat → Int) (u : Nat → ByteArray) : pl (L + 1) z u = pl L z u ++ [.int .i64 (z L), .string (u L)] := by
  unfold pl; rw [List.range_succ, List.flatMap_append]; simp
theorem pl_len (L : Nat) (z : Nat → Int) (u : Nat → ByteArray) : (pl L z u).length = L * 2 := by
  induction L with
  | zero => rfl
  | succ L ih => rw [pl_succ, List.length_append, ih]; simp; omega
theorem pl_get (L : Nat) (z : Nat → Int) (u : Nat → ByteArray) (i : Nat) (h : i < L) : (pl L z u)[i * 2]? = some (.int .i64 (z i)) ∧ (pl L z u)[i * 2 + 1]? = some (.string (u i)) := by
  induction L with
  | zero => omega
  | succ L ih =>
    rw [pl_succ]
    by_cases e : i = L
    · subst e
      have hl := pl_len i z u
      constructor
      · rw [List.getElem?_append_right (by omega), hl, Nat.sub_self]; rfl
      · rw [List.getElem?_append_right (by omega), hl, show i * 2 + 1 - i * 2 = 1 from by omega]; rfl
    · have := ih (by omega)
      have hl := pl_len L z u
      exact ⟨by rw [List.getElem?_append_left (by omega)]; exact this.1, by rw [List.getElem?_append_left (by omega)]; exact this.2⟩
theorem pl_congr {L : Nat} {z z' : Nat → Int} {u u' : Nat → ByteArray} (h : ∀ i, i < L → z i = z' i ∧ u i = u' i) : pl L z u = pl L z' u' := by
  induction L with
  | zero => rfl
  | succ L ih => rw [pl_succ, pl_succ, ih (fun i hi => h i (by omega)), (h L (by omega)).1, (h L (by omega)).2]
theorem own_pcs {w : World} {base L cap : Nat} {q : Option Addr} {z : Nat → Int} {u : Nat → ByteArray} (h : w.ownsRow base 41 2 (.slice q L cap) L (pl L z u)) : Pcs w q L z u := fun hL => by
  rcases h.2 with ⟨e, h0⟩ | ⟨g, cap', cur, e, _⟩
  · omega
  · injection e with e1 e2 e3
    subst e1; subst e3
    exact ⟨g, 0, rfl, fun i hi => ⟨by rw [Nat.zero_add, h.cellAt (i * 2) (by omega)]; exact (pl_get L z u i hi).1, by rw [Nat.zero_add, h.cellAt (i * 2 + 1) (by omega)]; exact (pl_get L z u i hi).2⟩⟩
theorem own_form {w : World} {base L s : Nat} {ty : TypeId} {v : Value} {xs : List Value} (h : w.ownsRow base ty s v L xs) : ∃ q cap, v = .slice q L cap ∧ L ≤ cap := by
  rcases h.2 with ⟨rfl, rfl⟩ | ⟨g, cap, cur, rfl, _, _, hc, _⟩
  · exact ⟨none, 0, rfl, Nat.le_refl _⟩
  · exact ⟨_, cap, rfl, hc⟩
/-- Pieces of these, each once. -/
def Pkd (n : Nat) (t : Nat → ByteArray) (L : Nat) (z : Nat → Int) (u : Nat → ByteArray) : Prop :=
  (∀ i, i < L → 0 ≤ z i ∧ z i < (n : Int) ∧ u i = t (z i).toNat) ∧ ∀ i, i < L → ∀ j, j < i → z i ≠ z j
theorem pkd_push {n : Nat} {t : Nat → ByteArray} {L : Nat} {z : Nat → Int} {u : Nat → ByteArray} (h : Pkd n t L z u) {a : Nat} (ha : a < n) (hn : ∀ i, i < L → z i ≠ (a : Int)) :
    Pkd n t (L + 1) (fun i => if i < L then z i else (a : Int)) (fun i => if i < L then u i else t a) := by
  refine ⟨fun i hi => ?_, fun i hi j hj => ?_⟩
  · show 0 ≤ (if i < L then z i else (a : Int)) ∧ (if i < L then z i else (a : Int)) < (n : Int) ∧ (if i < L then u i else t a) = t (if i < L then z i else (a : Int)).toNat
    by_cases e : i < L
    · rw [if_pos e, if_pos e]; exact h.1 i e
    · rw [if_neg e, if_neg e, Int.toNat_natCast]; exact ⟨by omega, by omega, rfl⟩
  · show (if i < L then z i else (a : Int)) ≠ (if j < L then z j else (a : Int))
    by_cases e : i < L
    · rw [if_pos e, if_pos (by omega)]; exact h.2 i e j hj
    · rw [if_neg e, if_pos (by omega)]; exact fun q => hn j (by omega) q.symm
theorem pl_push {L : Nat} {z : Nat → Int} {u : Nat → ByteArray} {a : Int} {s : ByteArray} : pl (L + 1) (fun i => if i < L then z i else a) (fun i => if i < L then u i else s) = pl L z u ++ [.int .i64 a, .string s] := by
  rw [pl_succ, if_neg (Nat.lt_irrefl L), if_neg (Nat.lt_irrefl L)]
  congr 1
  exact pl_congr fun i hi => ⟨if_pos hi, if_pos hi⟩
/-- Bytes behind a pointer. -/
def Byts (w : World) (p : Option Addr) (n : Nat) (f : Nat → K) : Prop := 0 < n → ∃ B O, p = some ⟨B, O, none⟩ ∧ ∀ i, i < n → w.cell? ⟨B, O + i, none⟩ = some (.int .u8 ((f i).n : Int))
theorem Byts.below {w w' : World} {p : Option Addr} {n : Nat} {f : Nat → K} (h : Byts w p n f) (k : Below w.heap.size w w') : Byts w' p n f := fun hn => by
  obtain ⟨B, O, e, hc⟩ := h hn
  exact ⟨B, O, e, fun i hi => by rw [k.cell (p := ⟨B, O + i, none⟩) (block_lt_of_cell (hc i hi))]; exact hc i hi⟩
theorem infoPc : (Try.prog.info? 41).map (fun i => (i.zero, i.size, i.bytes)) = some (some (.agg #[.int .i64 0, .string ⟨#[]⟩]), 2, 24) := by kernel_rfl
def RelPo (w : World) (n m : Nat) (t : Nat → ByteArray) (V I : Value) (wr : World) : Prop :=
  ∃ (j L : Nat) (z : Nat → Int) (u : Nat → ByteArray), j ≤ m ∧ L ≤ j ∧ I = .int .i64 (j : Int) ∧ wr.ownsRow w.heap.size 41 2 V L (pl L z u) ∧ Pkd n t L z u ∧ Below w.heap.size w wr
def RelPn (L a : Nat) (z : Nat → Int) (F I : Value) : Prop := ∃ (k : Nat) (b : Bool), k ≤ L ∧ I = .int .i64 (k : Int) ∧ F = .bool b ∧ (b = true ↔ ∀ i, i < k → z i ≠ (a : Int))
/-- What picked answers. -/
def PickedC (n m : Nat) (t : Nat → ByteArray) (w : World) (e : Ending) (w' : World) : Prop :=
  ∃ (q : Option Addr) (L cap : Nat) (z : Nat → Int) (u : Nat → ByteArray), e = .returned (.slice q L cap) ∧ L ≤ cap ∧ L ≤ m ∧ Pcs w' q L z u ∧ Pkd n t L z u ∧ Below w.heap.size w w'
theorem two_news (w : World) (v v' : Value) (ty : TypeId) : ∀ j u, [v, v'][j]? = some u → (w.alloc (.cells #[v, v'] ty)).cell? ((⟨w.heap.size, 0, none⟩ : Addr).add j) = some u := by
  intro a u ha
  match a, ha with
  | 0, ha => simp at ha; subst ha; simp [Addr.add]
  | 1, ha => simp at ha; subst ha; simp [Addr.add]
set_option maxRecDepth 100000 in
set_option maxHeartbeats 1000000 in
theorem picked_any (B O n cn : Nat) (t : Nat → ByteArray) (p : Option Addr) (m cm : Nat) (f : Nat → K) (w : World) (hn : 1 ≤ n) (hn' : n ≤ 16) (hm : m ≤ 200) (hS : Strs w (some ⟨B, O, none⟩) n t) (hO : Byts w p m f) :
    Calls Try.prog 11 #[.slice (some ⟨B, O, none⟩) n cn, .slice p m cm] w (PickedC n m t w) := by
  obtain ⟨iP, hiP, hzP, hsP, hbP⟩ := info_parts infoPc
  have HIP := Lib.hid hiP; have HZP := Lib.hid hzP; have HSP := Lib.hid hsP; have HBP := Lib.hid hbP
  have HS := Lib.hid hS; have HO := Lib.hid hO
  clear hiP hzP hsP hbP hS hO
  go_enter Try.func11, Try.ntmps11
  go_wp2_with fail
  go_loopw [5, 6] (fun V I wr => RelPo w n m t V I wr) (fun _ I _ => m - (intOf I).toNat)
  case atStart => exact ⟨0, 0, fun _ => 0, fun _ => ⟨#[]⟩, by omega, by omega, rfl, World.ownsRow_nil _ _ _ _, ⟨fun i hi => by omega, fun i hi => by omega⟩, Below.refl _ _⟩
  case round =>
    obtain ⟨j, L, z, u, hj, hL, rfl, hW, hP, hB⟩ := hrel
    obtain ⟨q, cap, hv, hcap⟩ := own_form hW
    subst hv
    have HW := Lib.hid hW; have HP := Lib.hid hP; have HB := Lib.hid hB; clear hW hP hB
    by_cases hlt : j < m
    · have j0 : (j : Int) < (m : Int) := by omega
      obtain ⟨B2, O2, hp, hc⟩ := (HO.out.below HB.out) (by omega)
      subst hp
      have cj := hc j hlt
      clear hc
      have fj := (f j).h
      have n1 : ((n : Int) == 0) = false := by simp; omega
      generalize (f j).n = fv at *
      have hfn : fv % n < n := Nat.mod_lt _ (by omega)
      go_wp2_with fail
      rw [← Int.natCast_emod]
      generalize fv % n = a at *
      clear cj fj n1
      go_loop [8, 9] (fun F I => RelPn L a z F I) (fun _ I => L - (intOf I).toNat)
      case atStart => exact ⟨0, true, by omega, rfl, rfl, ⟨fun _ i hi => by omega, fun _ => rfl⟩⟩
      case round =>
        obtain ⟨k, b, hk, rfl, rfl, hb⟩ := hrel
        have HN := Lib.hid hb; clear hb
        by_cases hll : k < L
        · have k0 : (k : Int) < (L : Int) := by omega
          obtain ⟨g, G, hq, hc⟩ := (own_pcs HW.out) (by omega)
          subst hq
          have ck := (hc k hll).1
          clear hc
          cases b with
          | false =>
            have HX : Hid (false = true ↔ ∀ i, i < k + 1 → z i ≠ (a : Int)) := ⟨fun h => absurd h (by decide), fun h => HN.out.2 fun i hi => h i (by omega)⟩
            clear HN
            go_wp2
            go_round
            case rel => exact ⟨k + 1, false, by omega, by go_num, rfl, HX.out⟩
            case measure => simp [intOf]; omega
          | true =>
            by_cases he : z k = (a : Int)
            · have HX : Hid (false = true ↔ ∀ i, i < k + 1 → z i ≠ (a : Int)) := ⟨fun h => absurd h (by decide), fun h => absurd he (h k (by omega))⟩
              have tz : (z k != (a : Int)) = false := by simp [he]
              clear HN he
              generalize z k = zk at ck tz
              go_wp2
              go_round
              case rel => exact ⟨k + 1, false, by omega, by go_num, rfl, HX.out⟩
              case measure => simp [intOf]; omega
            · have HX : Hid (true = true ↔ ∀ i, i < k + 1 → z i ≠ (a : Int)) := ⟨fun _ i hi => by
                by_cases e : i = k
                · subst e; exact he
                · exact HN.out.1 rfl i (by omega), fun _ => rfl⟩
              have tz : (z k != (a : Int)) = true := by simp [he]
              clear HN he
              generalize z k = zk at ck tz
              go_wp2
              go_round
              case rel => exact ⟨k + 1, true, by omega, by go_num, rfl, HX.out⟩
              case measure => simp [intOf]; omega
        · obtain rfl : L = k := by omega
          cases b with
          | false =>
            clear HN
            go_wp2
            go_roundw
            case rel => exact ⟨j + 1, L, z, u, by omega, by omega, by go_num, HW.out, HP.out, HB.out⟩
            case measure => simp [intOf]; omega
          | true =>
            have HU := Lib.hid (HN.out.1 rfl)
            have ca := (HS.out.below HB.out).at_ hfn
            have a0 : (a : Int) < (n : Int) := by omega
            have HPk := Lib.hid (pkd_push HP.out hfn HU.out)
            have HPl := Lib.hid (pl_push (L := L) (z := z) (u := u) (a := (a : Int)) (s := t a))
            clear HN HU
            generalize hta : t a = ta at ca HPl
            have HTA := Lib.hid hta; clear hta
            go_wp2_with (at_builtin; refine wpList_append_own _ rfl _ _ 32 rfl w.heap.size 41 iP (.agg #[.int .i64 0, .string ⟨#[]⟩]) 2 24 Try.underlying32 HIP.out HZP.out HSP.out HBP.out rfl (by decide) _ _ _ rfl (HW.out.alloc _) ⟨wr.heap.size, 0, none⟩ 1 1 [.int .i64 (a : Int), .string ta] rfl rfl (two_news wr (.int .i64 (a : Int)) (.string ta) 41) ?c2 ?c3 ?c4 ?c5 ?_)
            case c2 => exact ⟨rfl, rfl⟩
            case c3 => unfold maxLen; omega
            case c4 => omega
            case c5 => have := HB.out.size; omega
            intro v' w3 hown' hgrow _
            have HN : Hid (w3.ownsRow w.heap.size 41 2 v' (L + 1) (pl (L + 1) (fun i => if i < L then z i else (a : Int)) (fun i => if i < L then u i else ta))) := by
              show World.ownsRow _ _ _ _ _ _ _
              rw [HPl.out]; exact hown'
            have HB3 : Hid (Below w.heap.size w w3) := (HB.out.alloc HB.out.size _).grown hgrow (one_base HB.out.size _) (fun g e => (HW.out.lt g e).1)
            clear hown' hgrow
            go_wp2
            go_roundw
            case rel => exact ⟨j + 1, L + 1, _, _, by omega, by omega, by go_num, HN.out, by rw [← HTA.out]; exact HPk.out, HB3.out⟩
            case measure => simp [intOf]; omega
    · obtain rfl : m = j := by omega
      have HPc := Lib.hid (own_pcs HW.out)
      go_wp2
      go_ret
      exact ⟨q, L, cap, z, u, rfl, hcap, hL, HPc.out, HP.out, HB.out⟩
end Go.Proofs.Ytkgfkchdbbeljaa.Cd

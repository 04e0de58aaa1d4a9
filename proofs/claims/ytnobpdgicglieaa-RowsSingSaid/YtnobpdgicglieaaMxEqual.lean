/-
  The document's own look whether rows are the same: Equal.
-/
import Derived.Test.YtnobpdgicglieaaMxRefs
namespace Go.Proofs.Ytnobpdgicglieaa.Mx
open Go.ChangeShapes Go.WideShapes Go.ChangeAt Go.RowKit Go.Proofs.Ytnobpdgicglieaa.Gf

/-- The text of m bytes. -/
def str (m : Nat) (x : Nat → K) : ByteArray := ((List.range m).map fun j => ((x j).n : Int)).foldl (fun r n => r.push (UInt8.ofNat n.toNat)) ByteArray.empty
theorem conv_str {w : World} {b o m c : Nat} {x : Nat → K} (h : ∀ j, j < m → w.cell? ⟨b, o + j, none⟩ = some (.int .u8 ((x j).n : Int))) :
    (convert 37 9 (.slice (some ⟨b, o, none⟩) m c)).run Try.prog w = .ok (.string (str m x)) w := by
  rw [run_convert_bytes_string w 37 9 5 _ _ _ Try.underlying37 Try.underlying5 Try.underlying9]
  have hadd : ∀ j, (⟨b, o, none⟩ : Addr).add j = ⟨b, o + j, none⟩ := fun j => by unfold Addr.add; split <;> simp_all
  refine run_bytesToString w ⟨b, o, none⟩ m c ((List.range m).map fun j => ((x j).n : Int)) ?_
  have := run_loadCells_list (P := Try.prog) w ⟨b, o, none⟩ (((List.range m).map fun j => ((x j).n : Int)).map (Value.int .u8)) (fun j v hv => by
    rw [List.getElem?_map, List.getElem?_map] at hv
    by_cases hj : j < m
    · rw [List.getElem?_range hj] at hv
      rw [hadd, h j hj]; simpa using hv
    · rw [List.getElem?_eq_none (by simpa using hj)] at hv; simp at hv)
  simpa using this
def RelEq (n : Nat) (w : World) (I : Value) (wr : World) : Prop := ∃ k q : Nat, k ≤ n ∧ I = .int .i64 (k : Int) ∧ wr = w.drewN q
set_option maxRecDepth 100000 in
set_option maxHeartbeats 1000000 in
theorem equal_yes (P O n m cn P' O' cn' : Nat) (b o c b' o' c' : Nat → Nat) (x y : Nat → Nat → K) (w : World) (hn : n ≤ 4096) (hM : Mat w P O n m b o c x) (hM' : Mat w P' O' n m b' o' c' y) (hx : ∀ i, i < n → ∀ j, j < m → y i j = x i j) :
    Calls Try.prog 16 #[.slice (some ⟨P, O, none⟩) n cn, .slice (some ⟨P', O', none⟩) n cn'] w fun e w' => e = .returned (.bool true) ∧ ∃ q, w' = w.drewN q := by
  have HM := Lib.hid hM; have HM' := Lib.hid (hM'.congr hx); clear hM hM' hx
  go_enter Try.func16, Try.ntmps16
  go_wp2_with fail
  go_loopw [5] (fun I wr => RelEq n w I wr) (fun I _ => n - (intOf I).toNat)
  case atStart => exact ⟨0, 0, by omega, rfl, rfl⟩
  case round =>
    obtain ⟨k, q, hk, rfl, hw⟩ := hrel
    have HW := Lib.hid hw
    by_cases hlt : k < n
    · have k0 : (k : Int) < (n : Int) := by omega
      have HN := Lib.hid (HM.out.drewN q)
      have HN' := Lib.hid (HM'.out.drewN q)
      rw [← hw] at HN HN'
      clear hw
      have ct := HN.out.top k hlt
      have ct' := HN'.out.top k hlt
      have cv : ∀ a, (convert 37 9 (.slice (some ⟨b k, o k, none⟩) m (c k))).run Try.prog (wr.drewN a) = .ok (.string (str m (x k))) (wr.drewN a) := fun a => conv_str fun j hj => HN.out.row k hlt j hj
      have cv' : ∀ a, (convert 37 9 (.slice (some ⟨b' k, o' k, none⟩) m (c' k))).run Try.prog (wr.drewN a) = .ok (.string (str m (x k))) (wr.drewN a) := fun a => conv_str fun j hj => HN'.out.row k hlt j hj
      generalize str m (x k) = s at *
      go_wp2_with fail
      go_quiet (fail)
      go_wp2
      go_roundw
      case rel => exact ⟨k + 1, _, by omega, by go_num, by rw [HW.out, World.drewN_drewN]⟩
      case measure => simp [intOf]; omega
    · obtain rfl : k = n := by omega
      clear hw
      go_wp2
      go_ret
      exact ⟨rfl, q, HW.out⟩
end Go.Proofs.Ytnobpdgicglieaa.Mx

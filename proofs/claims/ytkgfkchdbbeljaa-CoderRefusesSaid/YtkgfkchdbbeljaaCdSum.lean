/-
  What the laws of layer 3 call beside the program: sum, of two texts as long.
-/
import Derived.Test.YtkgfkchdbbeljaaCdLaws
namespace Go.Proofs.Ytkgfkchdbbeljaa.Cd
open Go.ChangeShapes Go.WideShapes Go.ChangeAt Go.RowKit Go.Proofs.Ytkgfkchdbbeljaa.Gf Go.Proofs.Ytkgfkchdbbeljaa.Mx

/-- The cells of m bytes. -/
def kl (m : Nat) (f : Nat → K) : List Value := (List.range m).map fun j => Value.int .u8 ((f j).n : Int)
theorem kl_succ (m : Nat) (f : Nat → K) : kl (m + 1) f = kl m f ++ [.int .u8 ((f m).n : Int)] := by
  unfold kl; rw [List.range_succ, List.map_append]; rfl
theorem kl_get (m : Nat) (f : Nat → K) (j : Nat) (h : j < m) : (kl m f)[j]? = some (.int .u8 ((f j).n : Int)) := by
  unfold kl; rw [List.getElem?_map, List.getElem?_range h]; rfl
theorem u8_x (a b : Nat) (ha : a < 256) (hb : b < 256) : bits .xor .u8 (a : Int) (b : Int) = ((a ^^^ b : Nat) : Int) := by
  have h := u8_xor (a : Int) (b : Int) (by omega) (by omega) (by omega) (by omega)
  simpa only [Int.toNat_natCast] using h
/-- string(b), of a row of one's own, or of nil. -/
theorem run_own_text {w : World} {base m : Nat} {v : Value} {f : Nat → K} (h : w.ownsRow base 5 1 v m (kl m f)) : (convert 23 9 v).run Try.prog w = .ok (.string (bs m f)) w := by
  rcases h.2 with ⟨rfl, rfl⟩ | ⟨g, cap, cur, rfl, _⟩
  · rw [run_convert_bytes_nil w 23 5 Try.underlying23 Try.underlying5 0 0 9 Try.underlying9]
    rfl
  · exact run_text fun j hj => by rw [Nat.zero_add, h.cellAt j (by omega)]; exact kl_get m f j hj
theorem one_news (w : World) (v : Value) (ty : TypeId) : ∀ j u, [v][j]? = some u → (w.alloc (.cells #[v] ty)).cell? ((⟨w.heap.size, 0, none⟩ : Addr).add j) = some u := by
  intro a u ha
  match a, ha with
  | 0, ha =>
    simp at ha; subst ha
    simp [Addr.add]
theorem one_one {v : Value} (h : v.oneCell' = true) : ∀ u ∈ [v], u.oneCell' = true := by
  intro u hu; simp at hu; subst hu; exact h
theorem one_base {w w' : World} (h : w.heap.size ≤ w'.heap.size) (o : Obj) : w.heap.size ≤ (w'.alloc o).heap.size := by simp; omega
def RelSm (w : World) (m : Nat) (f : Nat → K) (V I : Value) (wr : World) : Prop := ∃ k : Nat, k ≤ m ∧ I = .int .i64 (k : Int) ∧ wr.ownsRow w.heap.size 5 1 V k (kl k f) ∧ Below w.heap.size w wr
set_option maxRecDepth 100000 in
set_option maxHeartbeats 1000000 in
theorem sum_any (s t : ByteArray) (m : Nat) (w : World) (hs : s.size = m) (ht : t.size = m) (hm : m ≤ 4096) :
    Calls Try.prog 15 #[.string s, .string t] w fun e w' => e = .returned (.string (sm s t)) ∧ Below w.heap.size w w' := by
  obtain ⟨i8, hi8, hz8, hs8, hb8⟩ := info_parts info8
  have HI8 := Lib.hid hi8; have HZ8 := Lib.hid hz8; have HS8 := Lib.hid hs8; have HB8 := Lib.hid hb8
  have HE : Hid (sm s t = bs m (fun p => kt s p + kt t p)) := by show _ = _; unfold sm; rw [hs]
  have HS := Lib.hid hs; have HT := Lib.hid ht
  clear hi8 hz8 hs8 hb8 hs ht
  go_enter Try.func15, Try.ntmps15
  go_wp2_with fail
  go_loopw [5, 6] (fun V I wr => RelSm w m (fun p => kt s p + kt t p) V I wr) (fun _ I _ => m - (intOf I).toNat)
  case atStart => exact ⟨0, by omega, rfl, World.ownsRow_nil _ _ _ _, Below.refl _ _⟩
  case round =>
    obtain ⟨k, hk, rfl, hO, hB⟩ := hrel
    have HO := Lib.hid hO; have HB := Lib.hid hB; clear hO hB
    by_cases hlt : k < m
    · have k1 : k < s.size := by rw [HS.out]; exact hlt
      have k2 : k < t.size := by rw [HT.out]; exact hlt
      have k1' : (k : Int) < (s.size : Int) := by omega
      have k2' : (k : Int) < (t.size : Int) := by omega
      have HK := Lib.hid (kl_succ k (fun p => kt s p + kt t p))
      have HX : Hid (bits .xor .u8 (s[k].toNat : Int) (t[k].toNat : Int) = ((kt s k + kt t k).n : Int)) := by
        show _ = _
        rw [u8_x _ _ (UInt8.toNat_lt _) (UInt8.toNat_lt _), add_n, kt_at k1, kt_at k2]
      go_wp2_with fail
      have HNW := Lib.hid (one_news wr (.int .u8 (bits .xor .u8 (s[k].toNat : Int) (t[k].toNat : Int))) 5)
      have HBS := Lib.hid (one_base HB.out.size (.cells #[.int .u8 (bits .xor .u8 (s[k].toNat : Int) (t[k].toNat : Int))] 5))
      have HML : Hid (k + 1 ≤ maxLen) := by show _ ≤ _; unfold maxLen; omega
      have HMB : Hid ((k + 1) * 1 ≤ 140737488355328) := by show _ ≤ _; omega
      have HBA : Hid (Below w.heap.size w (wr.alloc (.cells #[.int .u8 (bits .xor .u8 (s[k].toNat : Int) (t[k].toNat : Int))] 5))) := HB.out.alloc HB.out.size _
      go_region_law (first
        | (refine step_own _ rfl (.tmp 19) (.tmp 27) 23 rfl w.heap.size 5 i8 (.int .u8 0) 1 1 Try.underlying23 HI8.out HZ8.out HS8.out HB8.out rfl (by decide) u5 k (kl k (fun p => kt s p + kt t p)) (by simp [Act.eval]) (by exact HO.out.alloc _) ⟨wr.heap.size, 0, none⟩ 1 1 [.int .u8 (bits .xor .u8 (s[k].toNat : Int) (t[k].toNat : Int))] (by simp [Act.eval]) rfl (by exact HNW.out) (one_one rfl) HML.out HMB.out (by exact HBS.out) ?_
           intro v' w3 hown' hgrow _
           have HN : Hid (w3.ownsRow w.heap.size 5 1 v' (k + 1) (kl (k + 1) (fun p => kt s p + kt t p))) := by
             show World.ownsRow _ _ _ _ _ _ _
             rw [HK.out, ← HX.out]; exact hown'
           have HB3 : Hid (Below w.heap.size w w3) := (below_drewN HBA.out 1).grown hgrow (by exact HBS.out) (fun g e => (HO.out.lt g e).1)
           clear hown' hgrow))
      all_goals
        go_wp2
        go_roundw
        case rel => exact ⟨k + 1, by omega, by go_num, HN.out, HB3.out⟩
        case measure => simp [intOf]; omega
    · obtain rfl : m = k := by omega
      have k1 : decide (m < s.size) = false := by rw [HS.out]; simp
      have k1' : decide ((m : Int) < (s.size : Int)) = false := by rw [HS.out]; simp
      have hcv := run_own_text HO.out
      go_wp2
      go_ret
      exact ⟨ret_str HE.out.symm, HB.out⟩
end Go.Proofs.Ytkgfkchdbbeljaa.Cd

/-
  What is read of pieces that were picked.
-/
import Derived.Test.YtkgfkchdbbeljaaCdPicked
namespace Go.Proofs.Ytkgfkchdbbeljaa.Cd
open Go.ChangeShapes Go.WideShapes Go.ChangeAt Go.RowKit Go.Proofs.Ytkgfkchdbbeljaa.Gf Go.Proofs.Ytkgfkchdbbeljaa.Mx

theorem pkd_fit {k n m L : Nat} {x : Nat → Nat → K} {t u : Nat → ByteArray} {z : Nat → Int} (h : Pkd n (pc k m x t) L z u) : FitP n L z u :=
  ⟨fun i hi => ⟨(h.1 i hi).1, (h.1 i hi).2.1⟩, h.2, fun i hi => by rw [(h.1 i hi).2.2, (h.1 0 (by omega)).2.2, pc_size, pc_size]⟩
theorem pkd_read {k n m L : Nat} {x y : Nat → Nat → K} {t u : Nat → ByteArray} {z : Nat → Int} (h : Pkd n (pc k m x t) L z u) (hk : k ≤ L) (hy : Inv k (fun i j => x (z i).toNat j) y) (hs : ∀ j, j < k → (t j).size = m) {i : Nat} (hi : i < k) : pc k m y u i = t i := by
  have e : pc k m y u i = pc k m y (pc k m (fun i j => x (z i).toNat j) t) i := pc_congr (fun _ _ => rfl) fun j hj => by
    rw [(h.1 j (by omega)).2.2]; exact pc_congr (fun _ _ => rfl) (fun _ _ => rfl)
  rw [e]; exact pc_undo hy hi (hs i hi)
theorem again_int (c k n fb TB : Nat) (r : Nat → Nat) (x : Nat → Nat → K) (p : Option Addr) (L cl m : Nat) (z : Nat → Int) (t : Nat → ByteArray) (a : Int) (w : World) (hL : L ≤ 4096) (hcl : L ≤ cl) (hC : IsC w c k n fb TB r x) (hP : Pcs w p L z t) (h : FitP n L z t) (hk : k ≤ L) (hm : m ≤ 4096) (hs : (t 0).size = m) (h0 : 0 ≤ a) (h1 : a < (n : Int)) :
    Calls Try.prog 13 #[.pointer (some ⟨c, 0, none⟩), .slice p L cl, .int .i64 a] w (AgainC k m x z t a.toNat w) := by
  obtain ⟨a, rfl⟩ := Int.eq_ofNat_of_zero_le h0
  rw [Int.toNat_natCast]
  exact again_yes c k n fb TB r x p L cl m z t a w hL hcl hC hP h hk hm hs (by omega)
theorem own_cap {w : World} {base n s cap : Nat} {ty : TypeId} {q : Option Addr} {xs : List Value} (h : w.ownsRow base ty s (.slice q n cap) n xs) : n ≤ cap := by
  rcases h.2 with ⟨e, h0⟩ | ⟨g, cap', cur, e, _, _, hc, _⟩
  · omega
  · injection e with _ _ e3
    omega
end Go.Proofs.Ytkgfkchdbbeljaa.Cd

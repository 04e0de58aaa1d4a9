/-
  What Undo and Mul refuse.
-/
import Derived.Test.YtnobpdgicglieaaMxUndo
import Derived.Test.YtnobpdgicglieaaMxMul
namespace Go.Proofs.Ytnobpdgicglieaa.Mx
open Go.ChangeShapes Go.WideShapes Go.ChangeAt Go.RowKit Go.Proofs.Ytnobpdgicglieaa.Gf

set_option maxRecDepth 100000 in
set_option maxHeartbeats 1000000 in
theorem undo_no (p : Option Addr) (n cn : Nat) (A : Nat → Option Addr) (L C : Nat → Nat) (w : World) (hn : n ≤ 4294967296) (hl : ∀ i, i < n → L i ≤ 4294967296) (hr : Rag w p n A L C) (h : ¬ RightP n L ∨ n ≠ L 0) :
    Calls Try.prog 12 #[.slice p n cn] w (Nope 1 w) := by
  by_cases hR : RightP n L
  · obtain ⟨B, O, rfl, hc⟩ := hr (by have := hR.1; omega)
    have c0 : w.cell? ⟨B, O, none⟩ = some (.slice (A 0) (L 0) (C 0)) := by simpa using hc 0 (by have := hR.1; omega)
    have hne : n ≠ L 0 := by rcases h with h | h
                             · exact absurd hR h
                             · exact h
    have t1 : ((n : Int) != (L 0 : Int)) = true := by simp; omega
    have t1' : (n != L 0) = true := by simpa using hne
    have l0 := hR.2.2.2.1
    have n1 := hR.2.1
    have n0 : (0 : Int) < (n : Int) := by have := hR.1; omega
    have HR := Lib.hid hr; have HP := Lib.hid hR
    clear hc h hr hR hl hne
    have HC : Hid (Calls Try.prog 20 #[.slice (some ⟨B, O, none⟩) n cn] w fun e w' => e = .returned (.bool true) ∧ w' = w) := right_yes _ _ _ _ _ _ _ HR.out HP.out
    clear HR HP
    generalize L 0 = l at *
    go_enter Try.func12, Try.ntmps12
    go_wp2_with fail
    refine wp_scope_jumps 0 (fun _ _ => False) (fun _ _ => 0) rfl ?_ ?_
    · go_wp2_with fail
      refine HC.out.mono ?_
      rintro e w' ⟨rfl, hw'⟩
      obtain rfl : w = w' := hw'.symm
      go_wp2_with fail
      simp only [Exit.jump]
      go_ret2
      exact ⟨rfl, Below.refl _ _⟩
    · intro a' w' h; exact absurd h (fun h => h)
  · have HL := Lib.hid hl; have HR := Lib.hid hr; have HP := Lib.hid hR
    clear h hr hR hl
    go_enter Try.func12, Try.ntmps12
    go_wp2_with fail
    refine wp_scope_jumps 0 (fun _ _ => False) (fun _ _ => 0) rfl ?_ ?_
    · go_wp2_with fail
      refine (right_no _ _ _ _ _ _ _ hn HL.out HR.out HP.out).mono ?_
      rintro e w' ⟨rfl, hw'⟩
      obtain rfl : w = w' := hw'.symm
      go_wp2_with fail
      simp only [Exit.jump]
      go_ret2
      exact ⟨rfl, Below.refl _ _⟩
    · intro a' w' h; exact absurd h (fun h => h)
set_option maxRecDepth 100000 in
set_option maxHeartbeats 1000000 in
theorem mul_no (p : Option Addr) (n cn : Nat) (A : Nat → Option Addr) (L C : Nat → Nat) (p' : Option Addr) (n' cn' : Nat) (A' : Nat → Option Addr) (L' C' : Nat → Nat) (w : World) (hn : n ≤ 4294967296) (hl : ∀ i, i < n → L i ≤ 4294967296)
    (hn' : n' ≤ 4294967296) (hl' : ∀ i, i < n' → L' i ≤ 4294967296) (hr : Rag w p n A L C) (hr' : Rag w p' n' A' L' C') (h : ¬ RightP n L ∨ ¬ RightP n' L' ∨ L 0 ≠ n') :
    Calls Try.prog 13 #[.slice p n cn, .slice p' n' cn'] w (Nope 1 w) := by
  have HL := Lib.hid hl; have HR := Lib.hid hr; have HL' := Lib.hid hl'; have HR' := Lib.hid hr'; have H := Lib.hid h
  clear hl hr hl' hr' h
  by_cases hR : RightP n L
  · have HP := Lib.hid hR; clear hR
    by_cases hR' : RightP n' L'
    · have HP' := Lib.hid hR'; clear hR'
      obtain ⟨B, O, rfl, hc⟩ := HR.out (by have := HP.out.1; omega)
      have c0 : w.cell? ⟨B, O, none⟩ = some (.slice (A 0) (L 0) (C 0)) := by simpa using hc 0 (by have := HP.out.1; omega)
      have hne : L 0 ≠ n' := by rcases H.out with h | h | h
                                · exact absurd HP.out h
                                · exact absurd HP'.out h
                                · exact h
      have t1 : ((L 0 : Int) != (n' : Int)) = true := by simp; omega
      have t1' : (L 0 != n') = true := by simpa using hne
      have l0 := HP.out.2.2.2.1
      have n0 : (0 : Int) < (n : Int) := by have := HP.out.1; omega
      have HC : Hid (Calls Try.prog 20 #[.slice (some ⟨B, O, none⟩) n cn] w fun e w' => e = .returned (.bool true) ∧ w' = w) := right_yes _ _ _ _ _ _ _ HR.out HP.out
      have HC' : Hid (Calls Try.prog 20 #[.slice p' n' cn'] w fun e w' => e = .returned (.bool true) ∧ w' = w) := right_yes _ _ _ _ _ _ _ HR'.out HP'.out
      clear hc hne HR HP HR' HP' H HL HL'
      generalize L 0 = l at *
      go_enter Try.func13, Try.ntmps13
      go_wp2_with fail
      refine HC.out.mono ?_
      rintro e w' ⟨rfl, hw'⟩
      obtain rfl : w = w' := hw'.symm
      go_wp2_with fail
      refine HC'.out.mono ?_
      rintro e w' ⟨rfl, hw'⟩
      obtain rfl : w = w' := hw'.symm
      go_wp2_with fail
      go_ret2
      exact ⟨rfl, Below.refl _ _⟩
    · have HP' := Lib.hid hR'; clear hR'
      go_enter Try.func13, Try.ntmps13
      go_wp2_with fail
      refine (right_yes _ _ _ _ _ _ _ HR.out HP.out).mono ?_
      rintro e w' ⟨rfl, hw'⟩
      obtain rfl : w = w' := hw'.symm
      go_wp2_with fail
      refine (right_no _ _ _ _ _ _ _ hn' HL'.out HR'.out HP'.out).mono ?_
      rintro e w' ⟨rfl, hw'⟩
      obtain rfl : w = w' := hw'.symm
      go_wp2_with fail
      go_ret2
      exact ⟨rfl, Below.refl _ _⟩
  · have HP := Lib.hid hR; clear hR
    go_enter Try.func13, Try.ntmps13
    go_wp2_with fail
    refine (right_no _ _ _ _ _ _ _ hn HL.out HR.out HP.out).mono ?_
    rintro e w' ⟨rfl, hw'⟩
    obtain rfl : w = w' := hw'.symm
    go_wp2_with fail
    go_ret2
    exact ⟨rfl, Below.refl _ _⟩
end Go.Proofs.Ytnobpdgicglieaa.Mx

/-
  pairs.Right: wrong, and ContainsFunc by the library's contract (laid in plain words).
-/
import Derived.Test.YtgakcpcpfkoaiaaPrLaw
import Derived.Test.YtgakcpcpfkoaiaaPrRead
import Derived.Test.YtgakcpcpfkoaiaaVaRight
import Derived.Shelf.SlicesQ.IndexFunc
namespace Go.Proofs.Ytgakcpcpfkoaiaa.Pr
open Go.ChangeShapes Go.WideShapes Go.ChangeAt Go.RowKit Go.Sort Go.Shelf Go.Proofs Go.Proofs.Ytgakcpcpfkoaiaa.Ov Go.Proofs.Ytgakcpcpfkoaiaa.Va Go.Proofs.Ytgakcpcpfkoaiaa.St

def cfRen : Ren := ⟨fun | 6 => 42 | 8 => 24 | n => n, fun | 0 => 0 | 3 => 3 | 4 => 4 | 22 => 22 | 23 => 44 | 25 => 60 | n => n, fun n => n⟩
theorem cfLays : SlLaysH0.n8 Try.prog cfRen :=
  { mixed := by kernel_rfl
    f6 := ⟨Try.f42.name, by kernel_rfl, by kernel_rfl⟩
    f8 := ⟨Try.f24.name, by kernel_rfl, by kernel_rfl⟩
    t0 := by kernel_rfl
    a0 := fun _ => by kernel_rfl
    z0 := fun _ => by kernel_rfl
    v0 := fun _ => by kernel_rfl
    t3 := by kernel_rfl
    a3 := fun _ => by kernel_rfl
    z3 := fun _ => by kernel_rfl
    v3 := fun _ => by kernel_rfl
    t4 := by kernel_rfl
    a4 := fun _ => by kernel_rfl
    z4 := fun _ => by kernel_rfl
    v4 := fun _ => by kernel_rfl
    t22 := by kernel_rfl
    a22 := fun _ => by kernel_rfl
    z22 := fun _ => by kernel_rfl
    v22 := fun _ => by kernel_rfl
    t25 := by kernel_rfl
    a25 := fun _ => by kernel_rfl
    z25 := fun _ => by kernel_rfl
    v25 := fun _ => by kernel_rfl }
set_option maxRecDepth 100000 in
set_option maxHeartbeats 1000000 in
theorem wrong_any (p : Pr) (w : World) : Calls Try.prog 25 #[.agg (pcl p).toArray] w (Gives (.bool (!rp p)) w) := by
  obtain ⟨pk, ⟨vk, vn, vs, vx, vy⟩⟩ := p
  have HR := Lib.hid (fun w => right_val vk vn vx vy (tx vs) w)
  have HP := Lib.hid (box6 w 44 (.string (tx pk)) (.int .i64 vk) (.int .i64 vn) (.string (tx vs)) (.int .i64 vx) (.int .i64 vy))
  have HB := Lib.hid (box1 w (.cells #[.string (tx pk), .int .i64 vk, .int .i64 vn, .string (tx vs), .int .i64 vx, .int .i64 vy] 44))
  rw [tx_list] at HR
  have hrp : rp (pk, ⟨vk, vn, vs, vx, vy⟩) = (decide (pk.length ≤ 64) && rt ⟨vk, vn, vs, vx, vy⟩) := rfl
  rw [hrp]
  clear hrp
  unfold pcl
  dsimp only
  have hz := tx_size pk
  generalize tx pk = tk at *
  generalize rt ⟨vk, vn, vs, vx, vy⟩ = r at *
  rw [← hz]
  clear hz
  generalize hbb : decide (tk.size ≤ 64) = b
  cases b with
  | true =>
    have hd : decide (64 < (tk.size : Int)) = false := decide_eq_false (by have := of_decide_eq_true hbb; omega)
    clear hbb
    cases r
    all_goals
      go_enter Try.func25, Try.ntmps25
      go_wp2_with (fail)
      refine (HR.out _).mono ?_
      rintro e w1 ⟨rfl, hb⟩
      replace HB := Lib.hid (Below.next HB.out hb)
      clear hb
      go_wp2_with (fail)
      go_ret
      exact ⟨rfl, HB.out⟩
  | false =>
    have hd : decide (64 < (tk.size : Int)) = true := decide_eq_true (by have := of_decide_eq_false hbb; omega)
    clear hbb
    go_enter Try.func25, Try.ntmps25
    go_wp2_with (fail)
    go_ret
    exact ⟨rfl, HB.out⟩
theorem index_none (A : Option Addr) (c : Nat) (g : Value) (w : World) : Calls Try.prog 42 #[.slice A 0 c, g] w fun e w' => e = .returned (.int .i64 (-1)) ∧ w' = w := by
  go_enter Try.func42, Try.ntmps42
  go_wp2_with (fail)
  refine wp_loop_rounds 1 ?_
  rw [rounds_succ]
  go_wp2_with (fail)
  go_ret
  exact ⟨rfl, rfl⟩
theorem contains_none (A : Option Addr) (c : Nat) (g : Value) (w : World) : Calls Try.prog 24 #[.slice A 0 c, g] w fun e w' => e = .returned (.bool false) ∧ w' = w := by
  go_enter Try.func24, Try.ntmps24
  go_wp2_with (fail)
  refine (index_none A c g _).mono ?_
  rintro e w1 ⟨rfl, rfl⟩
  go_wp2_with (fail)
  go_ret
  exact ⟨rfl, rfl⟩
theorem contains_any (A : Option Addr) (c : Nat) (l : List Pr) (w : World) (h : Prs w A l) (hl : l.length ≤ 1000000) :
    Calls Try.prog 24 #[.slice A l.length c, .func (.func 25) #[] #[]] w (Gives (.bool (l.any fun p => !rp p)) w) := by
  rcases Nat.eq_zero_or_pos l.length with h0 | h0
  · obtain rfl : l = [] := List.length_eq_zero_iff.1 h0
    exact (contains_none A c _ w).mono fun _ w' ⟨he, hw⟩ => ⟨he, by rw [hw]; exact Below.refl _ _⟩
  · obtain ⟨B, O, rfl, hc⟩ := h h0
    have hg : ∀ j, j < l.length → l[j]! = pd l j := fun j hj => by rw [pd_at hj]; exact getElem!_pos l j hj
    have := AnyQ.slices_ContainsFunc cfLays 6 (fun w => by kernel_rfl) (fun w => by kernel_rfl) pcl pcl_len (fun p => !rp p) 25 #[] (enters_of Try.func25 (by kernel_rfl) rfl) B O l.length c l w
      (fun W x hb => (wrong_any x W).mono fun _ _ ⟨he, hb'⟩ => ⟨he, Below.next hb hb'⟩) (Nat.le_refl _) (by omega) (block_lt_of_cell (hc 0 0 _ h0 rfl)) (fun j hj i v hv => hc j i v hj (by rw [← hg j hj]; exact hv))
    rw [List.take_length] at this
    exact this
theorem pright_any (A : Option Addr) (c : Nat) (l : List Pr) (w : World) (h : Prs w A l) (hl : l.length ≤ 1000000) :
    Calls Try.prog 11 #[.slice A l.length c] w (Gives (.bool (rl l)) w) := by
  have HC := Lib.hid (contains_any A c l w h hl)
  have e : rl l = !(l.any fun p => !rp p) := by unfold rl; rw [List.all_eq_not_any_not]
  rw [e]
  generalize (l.any fun p => !rp p) = b at *
  go_enter Try.func11, Try.ntmps11
  go_wp2_with (fail)
  refine HC.out.mono ?_
  rintro e w1 ⟨rfl, hb⟩
  have HB := Lib.hid hb
  clear hb
  go_wp2_with (fail)
  go_ret
  exact ⟨rfl, HB.out⟩
end Go.Proofs.Ytgakcpcpfkoaiaa.Pr

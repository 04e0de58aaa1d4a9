/-
  pairs.Bytes.
-/
import Derived.Test.YtgakcpcpfkoaiaaPrRight
import Derived.Test.YtgakcpcpfkoaiaaOvBuildK
import Derived.Test.YtgakcpcpfkoaiaaVaBytes
namespace Go.Proofs.Ytgakcpcpfkoaiaa.Pr
open Go.ChangeShapes Go.WideShapes Go.ChangeAt Go.RowKit Go.Sort Go.Proofs Go.Proofs.Ytgakcpcpfkoaiaa.Ov Go.Proofs.Ytgakcpcpfkoaiaa.Tp Go.Proofs.Ytgakcpcpfkoaiaa.Va Go.Proofs.Ytgakcpcpfkoaiaa.St

theorem vb_le {v : Va} (h : rt v = true) : (vb v).length ≤ 4200 := by
  have h8 : ∀ n, n ≤ 9007199254740991 → (nb n).length ≤ 8 := fun n hn => nb_len8 hn
  obtain ⟨k, n, s, x, y⟩ := v
  rcases rt_yes h with ⟨h1, h2, h3, _⟩ | ⟨h1, h2, h3, _⟩ | ⟨h1, _, _, _⟩
  · dsimp only at h1 h2 h3
    subst h1
    rw [vb_int, List.length_append, List.length_append]
    have a := h8 0 (by omega)
    have b := h8 (wn (n / 134217728)) (wn_le (by omega) (by omega))
    have c := h8 (n % 134217728).toNat (by omega)
    omega
  · dsimp only at h1 h3
    subst h1
    rw [vb_text, List.length_append, List.length_append]
    have a := h8 1 (by omega)
    have b := h8 s.length (by omega)
    omega
  · dsimp only at h1
    subst h1
    rw [vb_point, List.length_append, List.length_append]
    have hr := (rt_point_in h).1
    have a := h8 2 (by omega)
    have b := h8 (wn x) (wn_le (by omega) (by omega))
    have c := h8 (wn y) (wn_le (by omega) (by omega))
    omega
theorem bs1_le {p : Pr} (h : rp p = true) : (bs1 p).length ≤ 5000 := by
  obtain ⟨h1, h2⟩ := (rp_iff p).1 h
  unfold bs1
  rw [List.length_append, List.length_append]
  have a := nb_len8 (show p.1.length ≤ 9007199254740991 by omega)
  have b := vb_le h2
  omega
theorem lbs_le {l : List Pr} (h : ∀ p ∈ l, rp p = true) : (lbs l).length ≤ l.length * 5000 := by
  induction l with
  | nil => simp [lbs]
  | cons p t ih =>
    have e : lbs (p :: t) = bs1 p ++ lbs t := rfl
    have a := bs1_le (h p (by simp))
    have b := ih fun x hx => h x (by simp [hx])
    rw [e, List.length_append, List.length_cons]; omega
theorem lbs_succ {l : List Pr} {i : Nat} (h : i < l.length) : lbs (l.take (i + 1)) = lbs (l.take i) ++ bs1 (pd l i) := by
  unfold lbs
  rw [List.take_succ_eq_append_getElem h, List.flatMap_append, pd_at h]
  simp
/-- A block with just these cells, of pairs. -/
def BoxP (w : World) (x : Nat) (vs : List Value) : Prop := w.heap[x]? = some (.cells vs.toArray 44)
section
variable {w w' : World} {x b : Nat} {vs : List Value}
theorem BoxP.lt (h : BoxP w x vs) : x < w.heap.size := (Array.getElem?_eq_some_iff.1 h).1
theorem BoxP.next (h : BoxP w x vs) (k : Below w.heap.size w w') : BoxP w' x vs := (k.block x h.lt).trans h
theorem BoxP.kept (h : BoxP w x vs) (k : Kept b w w') (hne : x ≠ b) : BoxP w' x vs := k x _ h (fun e => hne (Option.some.inj e)) (fun c fz e => by injection e with _ e2 _; exact absurd e2 (by decide))
theorem BoxP.c (h : BoxP w x vs) {i : Nat} {v : Value} (hi : vs[i]? = some v) : w.cell? ⟨x, i, none⟩ = some v := by
  unfold BoxP at h
  simp [World.cell?, h, hi]
theorem BoxP.made (w : World) (vs : List Value) : BoxP (w.alloc (.cells vs.toArray 44)) w.heap.size vs := by
  show (w.heap.push _)[w.heap.size]? = _
  simp
end
set_option maxRecDepth 100000 in
set_option maxHeartbeats 2000000 in
/-- pairs.Bytes. -/
theorem pbytes_any (A : Option Addr) (c : Nat) (l : List Pr) (w : World) (h : Prs w A l) (hl : l.length ≤ 100000) :
    Calls Try.prog 10 #[.slice A l.length c] w (Gives (.string (tx (if rl l = true then lb l else []))) w) := by
  have HR := Lib.hid (pright_any A c l w h (by omega))
  have HN := Lib.hid h
  clear h
  cases hr : rl l with
  | false =>
    rw [hr] at HR
    rw [if_neg (by simp)]
    clear hr
    go_enter Try.func10, Try.ntmps10
    go_wp2_with (fail)
    refine HR.out.mono ?_
    rintro e w1 ⟨rfl, hb⟩
    have HB := Lib.hid hb
    clear hb
    go_wp2_with (fail)
    go_ret
    exact ⟨rfl, HB.out⟩
  | true =>
    rw [hr] at HR
    rw [if_pos rfl]
    have HA := Lib.hid ((rl_iff l).1 hr)
    clear hr
    go_enter Try.func10, Try.ntmps10
    go_wp2_with (fail)
    refine HR.out.mono ?_
    rintro e w1 ⟨rfl, hb⟩
    have HB := Lib.hid (below_obj hb (.cells #[.pointer none, .slice none 0 0] 50))
    have HD := Lib.hid (BldF.fresh w1)
    have hw := hb.size
    clear hb HR
    go_wp2_with (fail)
    obtain ⟨b, hbz⟩ : ∃ b, b = w1.heap.size := ⟨_, rfl⟩
    have hwb : w.heap.size ≤ b := by omega
    have hb1 : b < (w1.alloc (.cells #[.pointer none, .slice none 0 0] 50)).heap.size := by rw [World.size_alloc]; omega
    rw [← hbz] at HD ⊢
    clear hbz hw
    generalize w1.alloc (.cells #[.pointer none, .slice none 0 0] 50) = w2 at *
    have hnu := num_yes l.length w2 (by omega)
    refine hnu.mono ?_
    rintro e w3 ⟨rfl, hb⟩
    replace HD := Lib.hid (HD.out.old hb)
    replace HB := Lib.hid (Below.next HB.out hb)
    have hb3 : b < w3.heap.size := Nat.lt_of_lt_of_le hb1 hb.size
    clear hb hb1 hnu
    have hnz : (nb l.length).length ≤ 8 := nb_len8 (by omega)
    have hwr := writeK_any b b [] (tx (nb l.length)) w3 HD.out (by rw [tx_size]; simp; omega) (by omega)
    rw [tx_list, List.nil_append] at hwr
    go_wp2_with (fail)
    refine hwr.mono ?_
    rintro e w4 ⟨rfl, hd, hb, hk⟩
    replace HD := Lib.hid hd
    replace HB := Lib.hid (HB.out.trans (hb.mono hwb))
    have hb4 : b < w4.heap.size := Nat.lt_of_lt_of_le hb3 hb.size
    clear hd hb hk hwr hb3
    have HL := Lib.hid (lbs_le HA.out)
    go_wp2_with (fail)
    go_loopg [15] l.length (fun kx s15 wr => ∃ i : Nat, i ≤ l.length ∧ l.length - i ≤ kx ∧ s15 = .int .i64 i ∧ b < wr.heap.size ∧ Hid (BldF b b (nb l.length ++ lbs (l.take i)) wr) ∧ Hid (Below w.heap.size w wr))
    case atStart => exact ⟨0, Nat.zero_le _, by omega, rfl, hb4, Lib.hid (by simpa [lbs] using HD.out), HB⟩
    case round =>
      clear HD HB hb4
      obtain ⟨i, hi, hkx, rfl, hbr, HD, HB⟩ := hrel
      by_cases hlt : i < l.length
      · have hltz : (i : Int) < (l.length : Int) := by omega
        obtain ⟨G, O, rfl⟩ := HN.out.shape (by omega)
        have hd := HN.out.next HB.out
        have k0 := hd.cell hlt 0 _ rfl
        have k1 := hd.cell hlt 1 _ rfl
        have k2 := hd.cell hlt 2 _ rfl
        have k3 := hd.cell hlt 3 _ rfl
        have k4 := hd.cell hlt 4 _ rfl
        have k5 := hd.cell hlt 5 _ rfl
        rw [Nat.add_zero] at k0
        have HS := Lib.hid (lbs_succ hlt)
        have hrp := HA.out _ (pd_mem hlt)
        have hpl := bs1_le hrp
        obtain ⟨hkl, hrt⟩ := (rp_iff _).1 hrp
        have hbs : bs1 (pd l i) = (nb (pd l i).1.length ++ (pd l i).1) ++ vb (pd l i).2 := rfl
        have hsum : (nb l.length ++ lbs (l.take i)).length ≤ 1000000000 := by
          have h1 := lbs_le (l := l.take i) (fun p hp => HA.out p (List.mem_of_mem_take hp))
          rw [List.length_append]
          rw [List.length_take] at h1
          have : min i l.length * 5000 ≤ 100000 * 5000 := Nat.mul_le_mul_right _ (by omega)
          omega
        clear hd hrp
        generalize pd l i = p at *
        obtain ⟨pk, ⟨vk, vn, vs, vx, vy⟩⟩ := p
        dsimp only at k0 k1 k2 k3 k4 k5 hkl hbs hrt
        rw [hbs] at HS hpl
        clear hbs
        have HBy := Lib.hid (fun w1 => bytes_yes (k := vk) (n := vn) (x := vx) (y := vy) (s := tx vs) (by rw [tx_list]; exact hrt) w1)
        rw [tx_list] at HBy
        have HTx := Lib.hid (fun w1 => text_any (tx pk) w1 (by rw [tx_size]; omega))
        rw [tx_list, tx_size] at HTx
        generalize nb pk.length ++ pk = T1 at *
        generalize vb ⟨vk, vn, vs, vx, vy⟩ = T2 at *
        rw [List.length_append] at hpl
        go_upto_region 8 with fail
        have HX := Lib.hid (BoxP.made wr [.string (tx pk), .int .i64 vk, .int .i64 vn, .string (tx vs), .int .i64 vx, .int .i64 vy])
        have hb1 := box1 wr (.cells [.string (tx pk), .int .i64 vk, .int .i64 vn, .string (tx vs), .int .i64 vx, .int .i64 vy].toArray 44)
        replace HD := Lib.hid (HD.out.old hb1)
        replace HB := Lib.hid (Below.next HB.out hb1)
        have hbx : b < (wr.alloc (.cells [.string (tx pk), .int .i64 vk, .int .i64 vn, .string (tx vs), .int .i64 vx, .int .i64 vy].toArray 44)).heap.size := Nat.lt_of_lt_of_le hbr hb1.size
        clear hb1 k0 k1 k2 k3 k4 k5
        generalize wr.alloc (.cells [.string (tx pk), .int .i64 vk, .int .i64 vn, .string (tx vs), .int .i64 vx, .int .i64 vy].toArray 44) = wb at *
        have hne : wr.heap.size ≠ b := by omega
        generalize wr.heap.size = x at *
        have k0 := HX.out.c (i := 0) rfl
        go_wp2_with (fail)
        clear k0
        refine (HTx.out _).mono ?_
        rintro e a1 ⟨rfl, hb⟩
        replace HX := Lib.hid (HX.out.next hb)
        replace HD := Lib.hid (HD.out.old hb)
        replace HB := Lib.hid (Below.next HB.out hb)
        replace hbx := Nat.lt_of_lt_of_le hbx hb.size
        clear hb HTx
        have hwr := writeK_any b b _ (tx T1) a1 HD.out (by rw [tx_size]; omega) (by omega)
        rw [tx_list] at hwr
        go_wp2_with (fail)
        refine hwr.mono ?_
        rintro e a2 ⟨rfl, hd, hb, hk⟩
        replace HX := Lib.hid (HX.out.kept hk hne)
        replace HD := Lib.hid hd
        replace HB := Lib.hid (HB.out.trans (hb.mono hwb))
        replace hbx := Nat.lt_of_lt_of_le hbx hb.size
        clear hd hb hk hwr
        have k1 := HX.out.c (i := 1) rfl
        have k2 := HX.out.c (i := 2) rfl
        have k3 := HX.out.c (i := 3) rfl
        have k4 := HX.out.c (i := 4) rfl
        have k5 := HX.out.c (i := 5) rfl
        go_wp2_with (fail)
        clear k1 k2 k3 k4 k5
        refine (HBy.out _).mono ?_
        rintro e a3 ⟨rfl, hb⟩
        replace HD := Lib.hid (HD.out.old hb)
        replace HB := Lib.hid (Below.next HB.out hb)
        replace hbx := Nat.lt_of_lt_of_le hbx hb.size
        clear hb HBy HX
        have hwr := writeK_any b b _ (tx T2) a3 HD.out (by rw [tx_size, List.length_append]; omega) (by omega)
        rw [tx_list] at hwr
        go_wp2_with (fail)
        refine hwr.mono ?_
        rintro e a4 ⟨rfl, hd, hb, hk⟩
        replace HD := Lib.hid hd
        replace HB := Lib.hid (HB.out.trans (hb.mono hwb))
        replace hbx := Nat.lt_of_lt_of_le hbx hb.size
        clear hd hb hk hwr
        go_wp2_with (fail)
        go_roundg (l.length - (i + 1))
        case measure => omega
        case rel => exact ⟨i + 1, by omega, Nat.le_refl _, by go_num, hbx, Lib.hid (by rw [HS.out]; have := HD.out; simp only [List.append_assoc] at this ⊢; exact this), HB⟩
      · have hltz : ¬ (i : Int) < (l.length : Int) := by omega
        obtain rfl : i = l.length := by omega
        have hst := stringK_any b b _ wr HD.out (by omega)
        rw [List.take_length] at hst
        go_wp2_with (fail)
        refine hst.mono ?_
        rintro e a1 ⟨rfl, hd, hb, hk⟩
        replace HB := Lib.hid (HB.out.trans (hb.mono hwb))
        clear hd hb hk hst
        go_wp2_with (fail)
        go_ret
        exact ⟨rfl, HB.out⟩
end Go.Proofs.Ytgakcpcpfkoaiaa.Pr

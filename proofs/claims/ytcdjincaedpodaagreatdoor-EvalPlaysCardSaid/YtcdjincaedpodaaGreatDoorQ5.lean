/-
  Small texts of this claim, together: ErWords, EvOwn, EvFuel, EvLocal, EvNam.
-/
import Derived.Test.YtcdjincaedpodaaGreatDoorQ4
import Derived.Test.YtcdjincaedpodaaGreatDoorQ2
import Derived.Test.YtcdjincaedpodaaGreatDoorQEvGood
namespace Go.Proofs.YtcdjincaedpodaaGreatDoor.Ev
open Go.ChangeShapes Go.WideShapes Go.ChangeAt Go.RowKit Ov Va Ga Ex
theorem infoT : (Tryz.prog.info? 9).map (fun i => (i.zero, i.size, i.bytes)) = some (some (.string ⟨#[]⟩), 1, 16) := by kernel_rfl
def tcl (l : List (List UInt8)) : List Value := l.map fun x => Value.string (tx x)
theorem tcl_snoc (l : List (List UInt8)) (x : List UInt8) : tcl (l ++ [x]) = tcl l ++ [.string (tx x)] := by simp [tcl]
def Wo (l : List (List UInt8)) (w : World) (e : Ending) (w' : World) : Prop := ∃ V, e = .returned V ∧ w'.ownsRow w.heap.size 9 1 V l.length (tcl l) ∧ Below w.heap.size w w'
def RelWo (s : List UInt8) (w : World) (V I : Value) (wr : World) : Prop := ∃ (k : Nat) (l : List (List UInt8)), k ≤ s.length + 1 ∧ l.length ≤ k ∧ I = .int .i64 (k : Int) ∧ l ++ wds (s.drop k) = wds s ∧ wr.ownsRow w.heap.size 9 1 V l.length (tcl l) ∧ Below w.heap.size w wr
set_option maxRecDepth 100000 in
set_option maxHeartbeats 2000000 in
theorem mwords_any (s : ByteArray) (hs : s.size ≤ 4096) (w : World) : Calls Tryz.prog 143 #[.string s] w (Wo (wds s.data.toList) w) := by
 obtain ⟨i0, hi0, hz0, hz1, hz2⟩ := info_parts infoT
 have HI := Lib.hid hi0; have HZ0 := Lib.hid hz0; have HZ1 := Lib.hid hz1; have HZ2 := Lib.hid hz2
 clear hi0 hz0 hz1 hz2
 have hsz : s.data.toList.length = s.size := by simp
 go_enter Tryz.func143, Tryz.ntmps143
 go_wp2_with (fail)
 go_loopw [3, 4] (fun V I wr => RelWo s.data.toList w V I wr) (fun _ I _ => s.size + 1 - (intOf I).toNat)
 case atStart => exact ⟨0, [], Nat.zero_le _, Nat.le_refl _, rfl, rfl, World.ownsRow_nil w _ _ 1, Below.refl _ _⟩
 case round =>
  obtain ⟨k, l, hk, hlk, rfl, hl, ho, hb⟩ := hrel
  have HL := Lib.hid hl; have HO := Lib.hid ho; have HB := Lib.hid hb
  clear hl ho hb
  by_cases hlt : k < s.size
  · go_wp2_with (fail)
    go_loop [5] (fun t => ∃ m : Nat, k ≤ m ∧ m ≤ s.size ∧ t = .int .i64 (m : Int) ∧ (s.data.toList.drop k).takeWhile (fun c => !isB c) = (s.data.toList.take m).drop k ++ (s.data.toList.drop m).takeWhile (fun c => !isB c) ∧ (s.data.toList.drop k).dropWhile (fun c => !isB c) = (s.data.toList.drop m).dropWhile (fun c => !isB c)) (fun t => s.size - (intOf t).toNat)
    case atStart => exact ⟨k, Nat.le_refl _, Nat.le_of_lt hlt, rfl, by rw [drop_take_nil]; rfl, rfl⟩
    case round =>
     obtain ⟨m, hkm, hm, rfl, hst, hbh⟩ := hrel
     have HST := Lib.hid hst; have HBH := Lib.hid hbh
     clear hst hbh
     by_cases hgo : ∃ h : m < s.size, isB s[m] = false
     · obtain ⟨hlt2, hc2⟩ := hgo
       have hdr := drop_at s hlt2
       have htk := take_snoc s m hlt2
       have hcn : ¬ isB s[m] = true := by rw [hc2]; decide
       have h32 : ((s[m].toNat : Int) != 32) = true := isB_no hcn
       have HR1 : Hid ((s.data.toList.drop k).takeWhile (fun c => !isB c) = (s.data.toList.take (m + 1)).drop k ++ (s.data.toList.drop (m + 1)).takeWhile (fun c => !isB c)) := by
        show _ = _
        rw [HST.out, hdr, List.takeWhile_cons_of_pos (by simpa using hcn), htk, List.drop_append_of_le_length (by rw [List.length_take]; omega)]; simp
       have HR2 : Hid ((s.data.toList.drop k).dropWhile (fun c => !isB c) = (s.data.toList.drop (m + 1)).dropWhile (fun c => !isB c)) := by
        show _ = _
        rw [HBH.out, hdr, List.dropWhile_cons_of_pos (by simpa using hcn)]
       clear hdr htk hc2 hcn HST HBH
       go_wp2_with (fail)
       go_round
       case rel => exact ⟨m + 1, by omega, by omega, by go_num, HR1.out, HR2.out⟩
       case measure => simp [intOf]; omega
     · have HQ : Hid (∀ c t, s.data.toList.drop m = c :: t → isB c = true) := by
        intro c t e
        have hlt2 : m < s.size := by
         have := congrArg List.length e
         rw [List.length_drop, List.length_cons] at this; omega
        rw [drop_at s hlt2] at e
        injection e with e1 e2
        rw [← e1]
        rcases Bool.eq_false_or_eq_true (isB s[m]) with g | g
        · exact g
        · exact absurd ⟨hlt2, g⟩ hgo
       have HT0 : Hid ((s.data.toList.drop m).takeWhile (fun c => !isB c) = [] ∧ (s.data.toList.drop m).dropWhile (fun c => !isB c) = s.data.toList.drop m) := by
        show _ ∧ _
        have hq := HQ.out
        cases hd : s.data.toList.drop m with
        | nil => exact ⟨rfl, rfl⟩
        | cons c t =>
          have := hq c t hd
          exact ⟨List.takeWhile_cons_of_neg (by simp [this]), List.dropWhile_cons_of_neg (by simp [this])⟩
       have HW1 : Hid (wds (s.data.toList.drop m) = wds (s.data.toList.drop (m + 1))) := wds_next HQ.out
       have h32 : ∀ h : m < s.size, ((s[m].toNat : Int) != 32) = false := fun h => isB_yes (HQ.out _ _ (drop_at s h))
       have HRUN : Hid (k < m → wds (s.data.toList.drop k) = (s.data.toList.take m).drop k :: wds (s.data.toList.drop m)) := fun h =>
        wds_run h (by omega) (by rw [HST.out, HT0.out.1, List.append_nil]) (by rw [HBH.out, HT0.out.2])
       clear HQ HT0 HST HBH hgo
       by_cases hkm2 : k < m
       · have HS : Hid (s.extract k m = tx ((s.data.toList.take m).drop k)) := ext_mid s hkm hm
         have HLN : Hid ((l ++ [(s.data.toList.take m).drop k]) ++ wds (s.data.toList.drop (m + 1)) = wds s.data.toList) := by
          show _ = _
          rw [List.append_assoc, List.singleton_append, ← HW1.out, ← HRUN.out hkm2]; exact HL.out
         clear HRUN HW1 HL
         by_cases hme : m < s.size
         · have g32 := h32 hme
           clear h32
           go_wp2_with (at_builtin; rw [HS.out]; refine wpList_append_own _ rfl _ _ 121 rfl w.heap.size 9 i0 (.string ⟨#[]⟩) 1 16 Tryz.underlying121 HI.out HZ0.out HZ1.out HZ2.out rfl (by decide) _ _ _ rfl (HO.out.alloc _) ⟨wr.heap.size, 0, none⟩ 1 1 [.string (tx ((s.data.toList.take m).drop k))] rfl rfl (one_news wr _ _) (one_one rfl) ?c3 ?c4 ?c5 ?_)
           case c3 => unfold maxLen; omega
           case c4 => omega
           case c5 => have h9 := HB.out.size; (try rw [World.size_alloc]); omega
           intro v' w1 hown' hgrow _
           have HN : Hid (w1.ownsRow w.heap.size 9 1 v' (l ++ [(s.data.toList.take m).drop k]).length (tcl (l ++ [(s.data.toList.take m).drop k]))) := by
            show World.ownsRow _ _ _ _ _ _ _
            rw [tcl_snoc, List.length_append]; exact hown'
           have HB1 : Hid (Below w.heap.size w w1) := (HB.out.alloc HB.out.size _).grown hgrow (one_base HB.out.size _) (fun g e => (HO.out.lt g e).1)
           clear hown' hgrow
           go_wp2_with (fail)
           go_roundw
           case rel => exact ⟨m + 1, l ++ [(s.data.toList.take m).drop k], by omega, by rw [List.length_append]; simp; omega, by go_num, HLN.out, HN.out, HB1.out⟩
           case measure => simp [intOf]; omega
         · clear h32
           go_wp2_with (at_builtin; rw [HS.out]; refine wpList_append_own _ rfl _ _ 121 rfl w.heap.size 9 i0 (.string ⟨#[]⟩) 1 16 Tryz.underlying121 HI.out HZ0.out HZ1.out HZ2.out rfl (by decide) _ _ _ rfl (HO.out.alloc _) ⟨wr.heap.size, 0, none⟩ 1 1 [.string (tx ((s.data.toList.take m).drop k))] rfl rfl (one_news wr _ _) (one_one rfl) ?c3 ?c4 ?c5 ?_)
           case c3 => unfold maxLen; omega
           case c4 => omega
           case c5 => have h9 := HB.out.size; (try rw [World.size_alloc]); omega
           intro v' w1 hown' hgrow _
           have HN : Hid (w1.ownsRow w.heap.size 9 1 v' (l ++ [(s.data.toList.take m).drop k]).length (tcl (l ++ [(s.data.toList.take m).drop k]))) := by
            show World.ownsRow _ _ _ _ _ _ _
            rw [tcl_snoc, List.length_append]; exact hown'
           have HB1 : Hid (Below w.heap.size w w1) := (HB.out.alloc HB.out.size _).grown hgrow (one_base HB.out.size _) (fun g e => (HO.out.lt g e).1)
           clear hown' hgrow
           go_wp2_with (fail)
           go_roundw
           case rel => exact ⟨m + 1, l ++ [(s.data.toList.take m).drop k], by omega, by rw [List.length_append]; simp; omega, by go_num, HLN.out, HN.out, HB1.out⟩
           case measure => simp [intOf]; omega
       · obtain rfl : m = k := by omega
         have HLN : Hid (l ++ wds (s.data.toList.drop (m + 1)) = wds s.data.toList) := by
          show _ = _
          rw [← HW1.out]; exact HL.out
         have g32 := h32 hlt
         clear HRUN HW1 HL h32
         go_wp2_with (fail)
         go_roundw
         case rel => exact ⟨m + 1, l, by omega, by omega, by go_num, HLN.out, HO.out, HB.out⟩
         case measure => simp [intOf]; omega
  · have HE : Hid (l = wds s.data.toList) := by
     show _ = _
     have := HL.out
     rw [List.drop_of_length_le (by omega)] at this
     rw [← this]; exact (List.append_nil l).symm
    go_wp2_with (fail)
    go_ret
    exact ⟨_, rfl, by rw [← HE.out]; exact HO.out, HB.out⟩
end Go.Proofs.YtcdjincaedpodaaGreatDoor.Ev
namespace Go.Proofs.YtcdjincaedpodaaGreatDoor.Ev
open Go.ChangeShapes Go.WideShapes Go.ChangeAt Go.RowKit Ov Va Ga
set_option maxHeartbeats 1000000 in
theorem own_any (k n x y : Int) (s : ByteArray) (hs : s.size ≤ 281474976710656) (w : World) : Calls Tryz.prog 23 #[.agg #[.int .i64 k, .int .i64 n, .string s, .int .i64 x, .int .i64 y]] w (Gives (.agg #[.int .i64 k, .int .i64 n, .string s, .int .i64 x, .int .i64 y]) w) := by
 have hby : Blk ((w.alloc (.cells #[.int .i64 k, .int .i64 n, .string s, .int .i64 x, .int .i64 y] 26)).alloc (.cells zz 26)) w.heap.size (vcs k n s x y) := (Blk.made w 26 (vcs k n s x y) rfl).old _
 have hbx : Blk ((w.alloc (.cells #[.int .i64 k, .int .i64 n, .string s, .int .i64 x, .int .i64 y] 26)).alloc (.cells zz 26)) (w.heap.size + 1) (vcs 0 0 ⟨#[]⟩ 0 0) := Blk.made (w.alloc (.cells #[.int .i64 k, .int .i64 n, .string s, .int .i64 x, .int .i64 y] 26)) 26 (vcs 0 0 ⟨#[]⟩ 0 0) (by simp)
 have hbb := box2 w (.cells #[.int .i64 k, .int .i64 n, .string s, .int .i64 x, .int .i64 y] 26) (.cells zz 26)
 have HX := Lib.hid hbx; have HY := Lib.hid hby; have HB := Lib.hid hbb
 have HC := Lib.hid (fun w1 => clone_any s w1 hs)
 clear hbx hby hbb
 go_enter Tryz.func23, Tryz.ntmps23
 go_wp2_with (fail)
 refine (HC.out _).mono ?_
 rintro e w1 ⟨rfl, hb⟩
 have HX1 := Lib.hid (HX.out.next hb); have HY1 := Lib.hid (HY.out.next hb); have HB1 := Lib.hid (Below.next HB.out hb)
 clear hb HX HY HB HC
 have c0 := HX1.out.v0; have c1 := HX1.out.v1; have c2 := HX1.out.v2; have c3 := HX1.out.v3; have c4 := HX1.out.v4
 have z0 := HX1.out.g0; have z1 := HX1.out.g1; have z2 := HX1.out.g2; have z3 := HX1.out.g3; have z4 := HX1.out.g4
 have y0 := HY1.out.v0; have y1 := HY1.out.v1; have y2 := HY1.out.v2; have y3 := HY1.out.v3; have y4 := HY1.out.v4
 have f2 := HY1.out.g2
 go_wp2_with (fail)
 have hx2 := HX1.out.put (show w.heap.size ≠ w.heap.size + 1 by omega) 2 (.string s)
 have h3 := Blk.all5 hx2 (.int .i64 k) (.int .i64 n) (.string s) (.int .i64 x) (.int .i64 y)
 have hb2 : Below w.heap.size w (w1.setCell ⟨w.heap.size, 2, none⟩ (.string s)) := HB1.out.setCell (Nat.le_refl _) _
 have hb3 := below_all5 hb2 (b := w.heap.size + 1) (by omega) (.int .i64 k) (.int .i64 n) (.string s) (.int .i64 x) (.int .i64 y)
 clear c0 c1 c2 c3 c4 z0 z1 z2 z3 z4 y0 y1 y2 y3 y4 f2 hx2
 generalize ((((((w1.setCell ⟨w.heap.size, 2, none⟩ (.string s)).setCell ⟨w.heap.size + 1, 0, none⟩ (.int .i64 k)).setCell ⟨w.heap.size + 1, 1, none⟩ (.int .i64 n)).setCell ⟨w.heap.size + 1, 2, none⟩ (.string s)).setCell ⟨w.heap.size + 1, 3, none⟩ (.int .i64 x)).setCell ⟨w.heap.size + 1, 4, none⟩ (.int .i64 y)) = w4 at *
 have c0 := h3.c 0 _ rfl; have c1 := h3.c 1 _ rfl; have c2 := h3.c 2 _ rfl; have c3 := h3.c 3 _ rfl; have c4 := h3.c 4 _ rfl
 refine bodyPost_ret (v := .agg #[.int .i64 k, .int .i64 n, .string s, .int .i64 x, .int .i64 y]) (by simp [results, Tryz.results23, go_sem, c0, c1, c2, c3, c4]) rfl ⟨rfl, hb3⟩
end Go.Proofs.YtcdjincaedpodaaGreatDoor.Ev
namespace Go.Proofs.YtcdjincaedpodaaGreatDoor.Ev
open Ov Tp Ga Va Ex
def Fu {α : Type} (f : M α) : Prop := ∀ S n, (∃ a S1 m, m ≤ n ∧ f S n = .ok a S1 m ∧ (∀ j, f S (n - m + j) = .ok a S1 j) ∧ ∀ j, j < n - m → f S j = .er 15) ∨ (∃ x, f S n = .er x ∧ (x ≠ 15 → ∀ j, f S (n + j) = .er x))
theorem Fu.still {α : Type} {f : M α} (h : ∀ S, (∃ a S1, ∀ n, f S n = .ok a S1 n) ∨ ∃ x, ∀ n, f S n = .er x) : Fu f := by
 intro S n
 rcases h S with ⟨a, S1, g⟩ | ⟨x, g⟩
 · exact .inl ⟨a, S1, n, Nat.le_refl _, g n, fun j => by rw [Nat.sub_self, Nat.zero_add]; exact g j, fun j hj => by omega⟩
 · exact .inr ⟨x, g n, fun _ j => g _⟩
theorem Fu.bnd {α β : Type} {f : M α} {g : α → M β} (hf : Fu f) (hg : ∀ a, Fu (g a)) : Fu (bnd f g) := by
 intro S n
 rcases hf S n with ⟨a, S1, m, hm, e, e1, e2⟩ | ⟨x, e, e1⟩
 · rcases hg a S1 m with ⟨b, S2, k, hk, q, q1, q2⟩ | ⟨x, q, q1⟩
   · refine .inl ⟨b, S2, k, by omega, by rw [bnd_ok e]; exact q, fun j => ?_, fun j hj => ?_⟩
     · rw [show n - k + j = n - m + (m - k + j) by omega, bnd_ok (e1 _)]; exact q1 j
     · by_cases h : j < n - m
       · exact bnd_er (e2 j h)
       · rw [show j = n - m + (j - (n - m)) by omega, bnd_ok (e1 _)]; exact q2 _ (by omega)
   · refine .inr ⟨x, by rw [bnd_ok e]; exact q, fun hx j => ?_⟩
     rw [show n + j = n - m + (m + j) by omega, bnd_ok (e1 _)]; exact q1 hx j
 · exact .inr ⟨x, bnd_er e, fun hx j => bnd_er (e1 hx j)⟩
theorem Fu.ret {α : Type} (a : α) : Fu (ret a) := .still fun S => .inl ⟨a, S, fun _ => rfl⟩
theorem Fu.fail {α : Type} (x : Int) : Fu (fail x : M α) := .still fun _ => .inr ⟨x, fun _ => rfl⟩
theorem Fu.nmd (k : Int) : Fu (nmd k) := .still fun S => .inl ⟨_, S, fun _ => rfl⟩
theorem Fu.setI (k : Int) : Fu (setI k) := .still fun _ => .inl ⟨(), _, fun _ => rfl⟩
theorem Fu.emit (k : List UInt8) (v : Va) : Fu (emitM k v) := .still fun S => by
 by_cases h : 64 ≤ S.out.length
 · exact .inr ⟨22, fun n => by unfold emitM; rw [if_pos h]⟩
 · exact .inl ⟨v, _, fun n => by unfold emitM; rw [if_neg h]⟩
theorem Fu.lift (x : Int ⊕ Va) : Fu (lift x) := by
 cases x with
 | inl e => exact .fail e
 | inr v => exact .ret v
theorem Fu.ite {α : Type} {c : Prop} [Decidable c] {f g : M α} (hf : Fu f) (hg : Fu g) : Fu (if c then f else g) := by
 split
 · exact hf
 · exact hg
theorem Fu.tick : Fu tick := by
 intro S n
 cases n with
 | zero => exact .inr ⟨15, rfl, fun h => absurd rfl h⟩
 | succ n =>
   refine .inl ⟨(), S, n, Nat.le_succ _, rfl, fun j => by rw [show n + 1 - n + j = j + 1 by omega]; rfl, fun j hj => ?_⟩
   obtain rfl : j = 0 := by omega
   rfl
theorem Fu.withI {f : M Va} (h : Fu f) : Fu (withI f) := by
 intro S n
 rcases h S n with ⟨a, S1, m, hm, e, e1, e2⟩ | ⟨x, e, e1⟩
 · exact .inl ⟨a, { S1 with i := S.i }, m, hm, by unfold Ev.withI; rw [e], fun j => by unfold Ev.withI; rw [e1], fun j hj => by unfold Ev.withI; rw [e2 j hj]⟩
 · exact .inr ⟨x, by unfold Ev.withI; rw [e], fun hx j => by unfold Ev.withI; rw [e1 hx]⟩
theorem Fu.withIt {v : Va} {f : M Va} (h : Fu f) : Fu (withIt v f) := by
 intro S n
 rcases h { S with it := v } n with ⟨a, S1, m, hm, e, e1, e2⟩ | ⟨x, e, e1⟩
 · exact .inl ⟨a, { S1 with it := S.it }, m, hm, by unfold Ev.withIt; rw [e], fun j => by unfold Ev.withIt; rw [e1], fun j hj => by unfold Ev.withIt; rw [e2 j hj]⟩
 · exact .inr ⟨x, by unfold Ev.withIt; rw [e], fun hx j => by unfold Ev.withIt; rw [e1 hx]⟩
theorem Fu.ap (o : Int) (l : List Va) : Fu (ap o l) := by
 unfold Ev.ap
 exact .ite (.fail _) (.ite (.ite (.fail _) (.emit _ _)) (.lift _))
theorem Fu.lp {g : M Va} (h : Fu g) : ∀ (t : Nat) (k : Int) (v : Va), Fu (lp g t k v)
 | 0, _, v => .ret v
 | t + 1, k, v => by rw [lp_succ]; exact (Fu.setI k).bnd fun _ => h.bnd fun v => Fu.lp h t (k + 1) v
theorem Fu.va {f : List No → M Va} (h : ∀ r, Fu (f r)) : ∀ (k : Nat) (r : List No) (acc : List Va), Fu (va f k r acc)
 | 0, _, _ => .ret _
 | k + 1, r, acc => by rw [va_succ]; exact (h r).bnd fun v => Fu.va h k _ _
theorem Fu.body {f : List No → M Va} (h : ∀ r, Fu (f r)) (n : No) (r : List No) : Fu (body f n r) := by
 unfold Ev.body
 exact .ite (.ret _) (.ite (.nmd _) (.ite ((h r).bnd fun a => .ite (.fail _) (.ite (h _) (h _))) (.ite ((h r).bnd fun a => .ite (.fail _) (.ite (.fail _) (.withI (.lp (h _) _ _ _)))) (.ite ((h r).bnd fun a => .withIt (h _)) ((Fu.va h _ _ _).bnd fun l => .ap _ l)))))
theorem ev_fu : ∀ (d : Nat) (l : List No), Fu (ev d l)
 | 0, _ => .fail 15
 | _ + 1, [] => .fail 15
 | d + 1, n :: r => by rw [ev_cons]; exact Fu.tick.bnd fun _ => .body (ev_fu d) n r
def St.ahead (p : List (List UInt8 × Va)) (S : St) : St := { S with out := p ++ S.out }
def Pre {α : Type} (f : M α) : Prop := ∀ S n, (∃ a S1 m, f S n = .ok a S1 m ∧ S.out.length ≤ S1.out.length ∧ (∀ p, p.length + S1.out.length ≤ 64 → f (S.ahead p) n = .ok a (S1.ahead p) m) ∧ ∀ p, p.length + S.out.length ≤ 64 → 64 < p.length + S1.out.length → f (S.ahead p) n = .er 22) ∨
 (∃ x, f S n = .er x ∧ ∀ p, p.length + S.out.length ≤ 64 → f (S.ahead p) n = .er x ∨ f (S.ahead p) n = .er 22)
theorem Pre.still {α : Type} {f : M α} (h : ∀ S n, (∃ a S1 m, f S n = .ok a S1 m ∧ S1.out = S.out ∧ ∀ p, f (S.ahead p) n = .ok a (S1.ahead p) m) ∨ ∃ x, f S n = .er x ∧ ∀ p, f (S.ahead p) n = .er x) : Pre f := by
 intro S n
 rcases h S n with ⟨a, S1, m, e, e1, e2⟩ | ⟨x, e, e1⟩
 · exact .inl ⟨a, S1, m, e, by rw [e1]; exact Nat.le_refl _, fun p _ => e2 p, fun p h1 h2 => by rw [e1] at h2; omega⟩
 · exact .inr ⟨x, e, fun p _ => .inl (e1 p)⟩
theorem Pre.bnd {α β : Type} {f : M α} {g : α → M β} (hf : Pre f) (hg : ∀ a, Pre (g a)) : Pre (bnd f g) := by
 intro S n
 rcases hf S n with ⟨a, S1, m, e, e0, e1, e2⟩ | ⟨x, e, e1⟩
 · rcases hg a S1 m with ⟨b, S2, k, q, q0, q1, q2⟩ | ⟨x, q, q1⟩
   · refine .inl ⟨b, S2, k, by rw [bnd_ok e]; exact q, by omega, fun p hp => ?_, fun p h1 h2 => ?_⟩
     · rw [bnd_ok (e1 p (by omega))]; exact q1 p hp
     · by_cases h : p.length + S1.out.length ≤ 64
       · rw [bnd_ok (e1 p h)]; exact q2 p h h2
       · exact bnd_er (e2 p h1 (by omega))
   · refine .inr ⟨x, by rw [bnd_ok e]; exact q, fun p hp => ?_⟩
     by_cases h : p.length + S1.out.length ≤ 64
     · rw [bnd_ok (e1 p h)]; exact q1 p h
     · exact .inr (bnd_er (e2 p hp (by omega)))
 · refine .inr ⟨x, bnd_er e, fun p hp => ?_⟩
   rcases e1 p hp with h | h
   · exact .inl (bnd_er h)
   · exact .inr (bnd_er h)
theorem Pre.ret {α : Type} (a : α) : Pre (ret a) := .still fun S n => .inl ⟨a, S, n, rfl, rfl, fun _ => rfl⟩
theorem Pre.fail {α : Type} (x : Int) : Pre (fail x : M α) := .still fun _ _ => .inr ⟨x, rfl, fun _ => rfl⟩
theorem Pre.nmd (k : Int) : Pre (nmd k) := .still fun S n => .inl ⟨_, S, n, rfl, rfl, fun _ => rfl⟩
theorem Pre.setI (k : Int) : Pre (setI k) := .still fun _ n => .inl ⟨(), _, n, rfl, rfl, fun _ => rfl⟩
theorem Pre.tick : Pre tick := .still fun S n => by
 cases n with
 | zero => exact .inr ⟨15, rfl, fun _ => rfl⟩
 | succ n => exact .inl ⟨(), S, n, rfl, rfl, fun _ => rfl⟩
theorem Pre.lift (x : Int ⊕ Va) : Pre (lift x) := by
 cases x with
 | inl e => exact .fail e
 | inr v => exact .ret v
theorem Pre.emit (k : List UInt8) (v : Va) : Pre (emitM k v) := by
 intro S n
 by_cases h : 64 ≤ S.out.length
 · exact .inr ⟨22, by unfold emitM; rw [if_pos h], fun p hp => .inl (by unfold emitM St.ahead; dsimp only; rw [if_pos (by rw [List.length_append]; omega)])⟩
 · refine .inl ⟨v, _, n, by unfold emitM; rw [if_neg h], by rw [List.length_append]; omega, fun p hp => ?_, fun p hp hq => ?_⟩
   · rw [List.length_append] at hp
     unfold emitM St.ahead
     dsimp only
     rw [if_neg (by rw [List.length_append]; simp at hp; omega), List.append_assoc]
   · rw [List.length_append] at hq
     unfold emitM St.ahead
     dsimp only
     rw [if_pos (by rw [List.length_append]; simp at hq; omega)]
theorem Pre.ite {α : Type} {c : Prop} [Decidable c] {f g : M α} (hf : Pre f) (hg : Pre g) : Pre (if c then f else g) := by
 split
 · exact hf
 · exact hg
theorem Pre.withI {f : M Va} (h : Pre f) : Pre (withI f) := by
 intro S n
 rcases h S n with ⟨a, S1, m, e, e0, e1, e2⟩ | ⟨x, e, e1⟩
 · exact .inl ⟨a, { S1 with i := S.i }, m, by unfold Ev.withI; rw [e], e0, fun p hp => by unfold Ev.withI; rw [e1 p hp]; rfl, fun p hp hq => by unfold Ev.withI; rw [e2 p hp hq]⟩
 · refine .inr ⟨x, by unfold Ev.withI; rw [e], fun p hp => ?_⟩
   rcases e1 p hp with h | h
   · exact .inl (by unfold Ev.withI; rw [h])
   · exact .inr (by unfold Ev.withI; rw [h])
theorem Pre.withIt {v : Va} {f : M Va} (h : Pre f) : Pre (withIt v f) := by
 intro S n
 rcases h { S with it := v } n with ⟨a, S1, m, e, e0, e1, e2⟩ | ⟨x, e, e1⟩
 · exact .inl ⟨a, { S1 with it := S.it }, m, by unfold Ev.withIt; rw [e], e0, fun p hp => by have := e1 p hp; unfold St.ahead at this ⊢; unfold Ev.withIt; dsimp only at this ⊢; rw [this], fun p hp hq => by have := e2 p hp hq; unfold St.ahead at this ⊢; unfold Ev.withIt; dsimp only at this ⊢; rw [this]⟩
 · refine .inr ⟨x, by unfold Ev.withIt; rw [e], fun p hp => ?_⟩
   rcases e1 p hp with h | h
   · exact .inl (by unfold St.ahead at h ⊢; unfold Ev.withIt; dsimp only at h ⊢; rw [h])
   · exact .inr (by unfold St.ahead at h ⊢; unfold Ev.withIt; dsimp only at h ⊢; rw [h])
theorem Pre.ap (o : Int) (l : List Va) : Pre (ap o l) := by
 unfold Ev.ap
 exact .ite (.fail _) (.ite (.ite (.fail _) (.emit _ _)) (.lift _))
theorem Pre.lp {g : M Va} (h : Pre g) : ∀ (t : Nat) (k : Int) (v : Va), Pre (lp g t k v)
 | 0, _, v => .ret v
 | t + 1, k, v => by rw [lp_succ]; exact (Pre.setI k).bnd fun _ => h.bnd fun v => Pre.lp h t (k + 1) v
theorem Pre.va {f : List No → M Va} (h : ∀ r, Pre (f r)) : ∀ (k : Nat) (r : List No) (acc : List Va), Pre (va f k r acc)
 | 0, _, _ => .ret _
 | k + 1, r, acc => by rw [va_succ]; exact (h r).bnd fun v => Pre.va h k _ _
theorem Pre.body {f : List No → M Va} (h : ∀ r, Pre (f r)) (n : No) (r : List No) : Pre (body f n r) := by
 unfold Ev.body
 exact .ite (.ret _) (.ite (.nmd _) (.ite ((h r).bnd fun a => .ite (.fail _) (.ite (h _) (h _))) (.ite ((h r).bnd fun a => .ite (.fail _) (.ite (.fail _) (.withI (.lp (h _) _ _ _)))) (.ite ((h r).bnd fun a => .withIt (h _)) ((Pre.va h _ _ _).bnd fun l => .ap _ l)))))
def Kee {α : Type} (f : M α) : Prop := ∀ S n a S1 m, f S n = .ok a S1 m → S1 = { S with out := S1.out }
theorem Kee.bnd {α β : Type} {f : M α} {g : α → M β} (hf : Kee f) (hg : ∀ a, Kee (g a)) : Kee (bnd f g) := by
 intro S n b S1 m e
 unfold Ev.bnd at e
 cases hc : f S n with
 | er x => rw [hc] at e; cases e
 | ok a S2 n2 =>
   rw [hc] at e
   have h1 := hf _ _ _ _ _ hc
   have h2 := hg a _ _ _ _ _ e
   rw [h2, h1]
theorem Kee.ret {α : Type} (a : α) : Kee (ret a) := by
 intro S n b S1 m e; injection e with _ e2 _; subst e2; rfl
theorem Kee.fail {α : Type} (x : Int) : Kee (fail x : M α) := by intro S n b S1 m e; cases e
theorem Kee.nmd (k : Int) : Kee (nmd k) := by
 intro S n b S1 m e; injection e with _ e2 _; subst e2; rfl
theorem Kee.tick : Kee tick := by
 intro S n b S1 m e
 cases n with
 | zero => cases e
 | succ n => injection e with _ e2 _; subst e2; rfl
theorem Kee.lift (x : Int ⊕ Va) : Kee (lift x) := by
 cases x with
 | inl e => exact .fail e
 | inr v => exact .ret v
theorem Kee.emit (k : List UInt8) (v : Va) : Kee (emitM k v) := by
 intro S n b S1 m e
 unfold emitM at e
 split at e
 · cases e
 · injection e with _ e2 _; subst e2; rfl
theorem Kee.ite {α : Type} {c : Prop} [Decidable c] {f g : M α} (hf : Kee f) (hg : Kee g) : Kee (if c then f else g) := by
 split
 · exact hf
 · exact hg
def KeeI {α : Type} (f : M α) : Prop := ∀ S n a S1 m, f S n = .ok a S1 m → S1 = { S with out := S1.out, i := S1.i }
theorem Kee.toI {α : Type} {f : M α} (h : Kee f) : KeeI f := fun S n a S1 m e => by
 have := h S n a S1 m e
 rw [this]
theorem KeeI.bnd {α β : Type} {f : M α} {g : α → M β} (hf : KeeI f) (hg : ∀ a, KeeI (g a)) : KeeI (bnd f g) := by
 intro S n b S1 m e
 unfold Ev.bnd at e
 cases hc : f S n with
 | er x => rw [hc] at e; cases e
 | ok a S2 n2 =>
   rw [hc] at e
   have h1 := hf _ _ _ _ _ hc
   have h2 := hg a _ _ _ _ _ e
   rw [h2, h1]
theorem KeeI.setI (k : Int) : KeeI (setI k) := by
 intro S n b S1 m e; injection e with _ e2 _; subst e2; rfl
theorem KeeI.lp {g : M Va} (h : Kee g) : ∀ (t : Nat) (k : Int) (v : Va), KeeI (lp g t k v)
 | 0, _, v => (Kee.ret v).toI
 | t + 1, k, v => by rw [lp_succ]; exact (KeeI.setI k).bnd fun _ => h.toI.bnd fun v => KeeI.lp h t (k + 1) v
theorem Kee.withI {f : M Va} (h : KeeI f) : Kee (withI f) := by
 intro S n b S1 m e
 unfold Ev.withI at e
 cases hc : f S n with
 | er x => rw [hc] at e; cases e
 | ok a S2 n2 =>
   rw [hc] at e
   injection e with _ e2 _
   have h1 := h _ _ _ _ _ hc
   rw [← e2, h1]
theorem Kee.withIt {v : Va} {f : M Va} (h : Kee f) : Kee (withIt v f) := by
 intro S n b S1 m e
 unfold Ev.withIt at e
 cases hc : f { S with it := v } n with
 | er x => rw [hc] at e; cases e
 | ok a S2 n2 =>
   rw [hc] at e
   injection e with _ e2 _
   have h1 := h _ _ _ _ _ hc
   rw [← e2, h1]
theorem Kee.ap (o : Int) (l : List Va) : Kee (ap o l) := by
 unfold Ev.ap
 exact .ite (.fail _) (.ite (.ite (.fail _) (.emit _ _)) (.lift _))
theorem Kee.va {f : List No → M Va} (h : ∀ r, Kee (f r)) : ∀ (k : Nat) (r : List No) (acc : List Va), Kee (va f k r acc)
 | 0, _, _ => .ret _
 | k + 1, r, acc => by rw [va_succ]; exact (h r).bnd fun v => Kee.va h k _ _
theorem Kee.body {f : List No → M Va} (h : ∀ r, Kee (f r)) (n : No) (r : List No) : Kee (body f n r) := by
 unfold Ev.body
 exact .ite (.ret _) (.ite (.nmd _) (.ite ((h r).bnd fun a => .ite (.fail _) (.ite (h _) (h _))) (.ite ((h r).bnd fun a => .ite (.fail _) (.ite (.fail _) (.withI (.lp (h _) _ _ _)))) (.ite ((h r).bnd fun a => .withIt (h _)) ((Kee.va h _ _ _).bnd fun l => .ap _ l)))))
def St.alt (k : List UInt8) (v c : Va) (S : St) : St := { S with key := k, val := v, acc := c }
def Rs.alt {α : Type} (k : List UInt8) (v c : Va) : Rs α → Rs α
 | .er x => .er x
 | .ok a S n => .ok a (S.alt k v c) n
section
variable {K K' : List UInt8} {V C V' C' : Va}
def Was (K : List UInt8) (V C : Va) (S : St) : Prop := S.key = K ∧ S.val = V ∧ S.acc = C
def Nam {α : Type} (K : List UInt8) (V C : Va) (K' : List UInt8) (V' C' : Va) (f : M α) : Prop := ∀ S n, Was K V C S → f (S.alt K' V' C') n = (f S n).alt K' V' C' ∧ ∀ a S1 m, f S n = .ok a S1 m → Was K V C S1
theorem Nam.bnd {α β : Type} {f : M α} {g : α → M β} (hf : Nam K V C K' V' C' f) (hg : ∀ a, Nam K V C K' V' C' (g a)) : Nam K V C K' V' C' (bnd f g) := by
 intro S n h
 obtain ⟨h1, h2⟩ := hf S n h
 unfold Ev.bnd
 rw [h1]
 cases hc : f S n with
 | er x => exact ⟨rfl, fun a S1 m e => by cases e⟩
 | ok a S2 n2 => exact hg a S2 n2 (h2 _ _ _ hc)
theorem Nam.ret {α : Type} (a : α) : Nam K V C K' V' C' (ret a) := fun S n h => ⟨rfl, fun b S1 m e => by injection e with _ e2 _; subst e2; exact h⟩
theorem Nam.fail {α : Type} (x : Int) : Nam K V C K' V' C' (fail x : M α) := fun S n h => ⟨rfl, fun b S1 m e => by cases e⟩
theorem Nam.setI (k : Int) : Nam K V C K' V' C' (setI k) := fun S n h => ⟨rfl, fun b S1 m e => by injection e with _ e2 _; subst e2; exact h⟩
theorem Nam.tick : Nam K V C K' V' C' tick := fun S n h => by
 cases n with
 | zero => exact ⟨rfl, fun b S1 m e => by cases e⟩
 | succ n => exact ⟨rfl, fun b S1 m e => by injection e with _ e2 _; subst e2; exact h⟩
theorem Nam.lift (x : Int ⊕ Va) : Nam K V C K' V' C' (lift x) := by
 cases x with
 | inl e => exact .fail e
 | inr v => exact .ret v
theorem Nam.emit (k : List UInt8) (v : Va) : Nam K V C K' V' C' (emitM k v) := fun S n h => by
 unfold emitM
 by_cases hl : 64 ≤ S.out.length
 · rw [if_pos (show 64 ≤ (S.alt K' V' C').out.length from hl), if_pos hl]; exact ⟨rfl, fun b S1 m e => by cases e⟩
 · rw [if_neg (show ¬ 64 ≤ (S.alt K' V' C').out.length from hl), if_neg hl]; exact ⟨rfl, fun b S1 m e => by injection e with _ e2 _; subst e2; exact h⟩
theorem Nam.nmd {k : Int} (h0 : k = 0 → K = K') (h1 : k = 1 → V = V') (h2 : k = 2 → C = C') : Nam K V C K' V' C' (nmd k) := fun S n h => by
 refine ⟨?_, fun b S1 m e => by injection e with _ e2 _; subst e2; exact h⟩
 obtain ⟨rfl, rfl, rfl⟩ := h
 unfold Ev.nmd Rs.alt
 by_cases e0 : k = 0
 · rw [if_pos e0, if_pos e0]; unfold St.alt; rw [← h0 e0]
 by_cases e1 : k = 1
 · rw [if_neg e0, if_pos e1, if_neg e0, if_pos e1]; unfold St.alt; rw [← h1 e1]
 by_cases e2 : k = 2
 · rw [if_neg e0, if_neg e1, if_pos e2, if_neg e0, if_neg e1, if_pos e2]; unfold St.alt; rw [← h2 e2]
 · rw [if_neg e0, if_neg e1, if_neg e2, if_neg e0, if_neg e1, if_neg e2]; rfl
theorem Nam.ite {α : Type} {c : Prop} [Decidable c] {f g : M α} (hf : c → Nam K V C K' V' C' f) (hg : ¬ c → Nam K V C K' V' C' g) : Nam K V C K' V' C' (if c then f else g) := by
 split
 · exact hf ‹_›
 · exact hg ‹_›
theorem Nam.withI {f : M Va} (h : Nam K V C K' V' C' f) : Nam K V C K' V' C' (withI f) := fun S n hw => by
 obtain ⟨h1, h2⟩ := h S n hw
 unfold Ev.withI
 rw [h1]
 cases hc : f S n with
 | er x => exact ⟨rfl, fun a S1 m e => by cases e⟩
 | ok a S2 n2 => exact ⟨rfl, fun b S1 m e => by injection e with _ e2 _; subst e2; exact (h2 _ _ _ hc : Was K V C S2)⟩
theorem Nam.withIt {v : Va} {f : M Va} (h : Nam K V C K' V' C' f) : Nam K V C K' V' C' (withIt v f) := fun S n hw => by
 obtain ⟨h1, h2⟩ := h { S with it := v } n hw
 unfold Ev.withIt
 rw [show ({ (S.alt K' V' C') with it := v } : St) = St.alt K' V' C' { S with it := v } from rfl, h1]
 cases hc : f { S with it := v } n with
 | er x => exact ⟨rfl, fun a S1 m e => by cases e⟩
 | ok a S2 n2 => exact ⟨rfl, fun b S1 m e => by injection e with _ e2 _; subst e2; exact (h2 _ _ _ hc : Was K V C S2)⟩
theorem Nam.ap (o : Int) (l : List Va) : Nam K V C K' V' C' (ap o l) := by
 unfold Ev.ap
 exact .ite (fun _ => .fail _) fun _ => .ite (fun _ => .ite (fun _ => .fail _) fun _ => .emit _ _) fun _ => .lift _
theorem Nam.lp {g : M Va} (h : Nam K V C K' V' C' g) : ∀ (t : Nat) (k : Int) (v : Va), Nam K V C K' V' C' (lp g t k v)
 | 0, _, v => .ret v
 | t + 1, k, v => by rw [lp_succ]; exact (Nam.setI k).bnd fun _ => h.bnd fun v => Nam.lp h t (k + 1) v
end
theorem nx_mem {n : No} {r : List No} (h : n ∈ nx r) : n ∈ r := by
 unfold nx at h
 cases hc : ex 25 r with
 | none => rw [hc] at h; cases h
 | some r' =>
   rw [hc] at h
   obtain ⟨c, e, _⟩ := ex_takes 25 r r' hc
   rw [e]; exact List.mem_append_right _ h
def Ali (K : List UInt8) (V C : Va) (K' : List UInt8) (V' C' : Va) (l : List No) : Prop := ∀ n ∈ l, n.o = 1 → (n.v.n = 0 → K = K') ∧ (n.v.n = 1 → V = V') ∧ (n.v.n = 2 → C = C')
section
variable {K K' : List UInt8} {V C V' C' : Va}
theorem Ali.nx {l : List No} (h : Ali K V C K' V' C' l) : Ali K V C K' V' C' (nx l) := fun n hn => h n (nx_mem hn)
theorem Nam.va {f : List No → M Va} (h : ∀ r, Ali K V C K' V' C' r → Nam K V C K' V' C' (f r)) : ∀ (k : Nat) (r : List No) (acc : List Va), Ali K V C K' V' C' r → Nam K V C K' V' C' (va f k r acc)
 | 0, _, _, _ => .ret _
 | k + 1, r, acc, hr => by rw [va_succ]; exact (h r hr).bnd fun v => Nam.va h k _ _ hr.nx
theorem Nam.body {f : List No → M Va} (h : ∀ r, Ali K V C K' V' C' r → Nam K V C K' V' C' (f r)) {n : No} {r : List No} (hr : Ali K V C K' V' C' (n :: r)) : Nam K V C K' V' C' (body f n r) := by
 have h1 : Ali K V C K' V' C' r := fun m hm => hr m (List.mem_cons_of_mem _ hm)
 unfold Ev.body
 exact .ite (fun _ => .ret _) fun _ => .ite (fun e => have g := hr n List.mem_cons_self e; .nmd g.1 g.2.1 g.2.2) fun _ => .ite (fun _ => (h r h1).bnd fun a => .ite (fun _ => .fail _) fun _ => .ite (fun _ => h _ h1.nx.nx) fun _ => h _ h1.nx) fun _ =>
  .ite (fun _ => (h r h1).bnd fun a => .ite (fun _ => .fail _) fun _ => .ite (fun _ => .fail _) fun _ => .withI (.lp (h _ h1.nx) _ _ _)) fun _ => .ite (fun _ => (h r h1).bnd fun a => .withIt (h _ h1.nx)) fun _ => (Nam.va h _ _ _ h1).bnd fun l => .ap _ l
end
end Go.Proofs.YtcdjincaedpodaaGreatDoor.Ev

/-
  Small texts of this claim, together: VaCut, OvPre, OvText, OvOwn, OvTail, VaVal, JoNum, JoMath, JoSmall, JoName, OvFloat, GaSmall, GaAdd, GaMul, GaNear, OvClone, OvBuild, OvBld, VaWrite, CrMath, JoAns, OvBuildK, OvCut, OvTurn, TpCut, VaRd, TpTape, JoDec.
-/
import Derived.Test.YtimllihegnokeaaGreatDoorQ1
import Derived.Shelf.Strings.Prefix
import Derived.Deep.RegionLaw
import Derived.StillTail
import Derived.WalkKit
import Derived.ProofKit
import Derived.Lib.SmallJoins
import Derived.OpenShut
import Derived.ShutString
import Derived.Test.YtimllihegnokeaaGreatDoorRows
import Derived.Laws.ComplexArith
import Derived.Lib.Hide
import Derived.Shelf.Pu.Clone
import Derived.Shelf.Strings.Builder1
import Derived.Maps.OwnSet
import Derived.Shelf.Strings.BuilderK
import Derived.Lib.OthersKept
import Derived.Shelf.Strings.Search3
import Derived.Deep.Quiet
namespace Go.Proofs.YtimllihegnokeaaGreatDoor.Va
open Go.ChangeShapes Go.WideShapes Go.ChangeAt Go.RowKit Ov Tp
def JD (s : ByteArray) (w : World) (a' : Act) (w' : World) : Prop := ∃ (k n : Nat) (u7 u8 u9 u10 u11 u12 u13 u14 u15 u16 u17 u18 u19 u20 u21 u22 u23 u24 u25 u26 u27 u28 u29 u30 u31 u32 u33 u34 u35 u36 u37 u38 u39 u40 u41 u42 : Value),
 k ≤ s.size ∧ k ≤ tw s.data.toList ∧ n = sat (s.data.toList.take k) ∧ w' = w ∧
 a' = { tmps := #[.string s, undef, .int .i64 0, .int .i64 0, .int .i64 0, .int .i64 (n : Int), .int .i64 (k : Int), u7, u8, u9, u10, u11, u12, u13, u14, u15, u16, u17, u18, u19, u20, u21, u22, u23, u24, u25, u26, u27, u28, u29, u30, u31, u32, u33, u34, u35, u36, u37, u38, u39, u40, u41, u42], defers := [] }
def muD (s : ByteArray) (a : Act) (_ : World) : Nat := s.size - (intOf (a.tmps.getD 6 undef)).toNat
def cdv (r : Nat × Nat × Nat) : Value := .tuple #[.int .i64 (r.1 : Int), .int .i64 (r.2.1 : Int), .int .i64 (r.2.2 : Int)]
theorem sat_le (l : List UInt8) : sat l ≤ 9007199254740993 := by rw [sat_dv]; omega
theorem sat_take {s : ByteArray} {k : Nat} (h : k < s.size) : sat (s.data.toList.take (k + 1)) = min (10 * sat (s.data.toList.take k) + (s[k].toNat - 48)) 9007199254740993 := by
 rw [take_snoc s k h, sat_snoc]
theorem head_at {s : ByteArray} (h : 0 < s.size) : s.data.toList.head? = some s[0] := by
 have hl : 0 < s.data.toList.length := by simpa using h
 rw [List.head?_eq_getElem?, List.getElem?_eq_getElem hl]; rfl
theorem empty_of {s : ByteArray} (h : s.size = 0) : s.toList = [] := by
 rw [ByteArray.toList_eq]; exact List.eq_nil_of_length_eq_zero (by simpa using h)
theorem full_of {s : ByteArray} (h : s.size ≠ 0) : s.toList ≠ [] := by
 rw [ByteArray.toList_eq]; intro e
 have h1 := congrArg List.length e
 have h2 : s.data.toList.length = s.size := by simp
 rw [h2] at h1; exact h h1
theorem cd_end {s : ByteArray} {k : Nat} (hk : tw s.data.toList = k) (hs : s.size ≠ 0) : cd s.data.toList = if k = 0 ∨ (1 < k ∧ (s[0]'(by omega)).toNat = 48) then (0, 0, 6) else (sat (s.data.toList.take k), k, 0) := by
 unfold cd
 rw [if_neg (by rw [← ByteArray.toList_eq]; exact full_of hs), hk, head_at (by omega)]
 have e : (some (s[0]'(by omega)) = some (48 : UInt8)) ↔ (s[0]'(by omega)).toNat = 48 := by
  constructor
  · intro h; rw [Option.some.inj h]; rfl
  · intro h; rw [UInt8.toNat_inj.1 (show (s[0]'(by omega)).toNat = (48 : UInt8).toNat from h)]
 simp only [e]
set_option maxRecDepth 100000 in
set_option maxHeartbeats 2000000 in
theorem cutDigits_any (s : ByteArray) (w : World) (hs : s.size ≤ 281474976710656) :
 Calls Tryz.prog 267 #[.string s] w fun e w' => e = .returned (cdv (cd s.data.toList)) ∧ w = w' := by
 go_enter Tryz.func267, Tryz.ntmps267
 go_wp2
 refine wp_scope_once 0 (JD s w) (muD s) rfl (fun NX => ?_) ?_
 · go_wp2_with (fail)
   go_step3
   rename_i hK
   exact hK _ _ (NX.out _ _ ⟨0, 0, _, _, _, _, _, _, _, _, _, _, _, _, _, _, _, _, _, _, _, _, _, _, _, _, _, _, _, _, _, _, _, _, _, _, _, _, by omega, by omega, by simp [sat], rfl, rfl⟩)
 · rintro a' w' ⟨k, n, u7, u8, u9, u10, u11, u12, u13, u14, u15, u16, u17, u18, u19, u20, u21, u22, u23, u24, u25, u26, u27, u28, u29, u30, u31, u32, u33, u34, u35, u36, u37, u38, u39, u40, u41, u42, hk, htw, hn, rfl, rfl⟩
   have HN := Lib.hid hn
   have hnb : n ≤ 9007199254740993 := by rw [hn]; exact sat_le _
   clear hn
   by_cases hd : ∃ h : k < s.size, dg s[k] = true
   · obtain ⟨hlt, hd⟩ := hd
     have HT := Lib.hid (tw_yes (l := s.data.toList) (k := k) (by simpa using hlt) htw hd)
     have HS := Lib.hid (sat_take hlt)
     obtain ⟨c, hc⟩ : ∃ c : UInt8, s[k] = c := ⟨_, rfl⟩
     rw [hc] at HS hd
     have HG := Lib.hid (isDigit_any c)
     rw [hd] at HG
     obtain ⟨b1, b2⟩ : 48 ≤ c.toNat ∧ c.toNat ≤ 57 := of_decide_eq_true hd
     clear hd htw
     go_wp2_with (fail)
     refine (HG.out _).mono ?_
     rintro e w' ⟨rfl, rfl⟩
     have HM : Hid (min (10 * (n : Int) + ((c.toNat : Int) - 48)) 9007199254740993 = ((min (10 * n + (c.toNat - 48)) 9007199254740993 : Nat) : Int)) := by show _ = _; omega
     go_wp2_with (fail)
     go_step3
     refine ⟨rfl, ⟨k + 1, min (10 * n + (c.toNat - 48)) 9007199254740993, _, _, _, _, _, _, _, _, _, _, _, _, _, _, _, _, _, _, _, _, _, _, _, _, _, _, _, _, _, _, _, _, _, _, _, _, by omega, HT.out, by rw [HS.out, ← HN.out], rfl, by rw [HM.out]; rfl⟩, ?_⟩
     simp [muD, intOf]; omega
   · have HK : Hid (tw s.data.toList = k) := by
      show _ = _
      by_cases hlt : k < s.size
      · exact tw_no (by simpa using hlt) htw (by
         rcases Bool.eq_false_or_eq_true (dg s[k]) with e | e
         · exact absurd ⟨hlt, e⟩ hd
         · exact e)
      · have := tw_le s.data.toList
        have h2 : s.data.toList.length = s.size := by simp
        omega
     clear htw
     by_cases hz : s.size = 0
     · have h1 := empty_of hz
       have h2 : ¬ (k : Int) < (s.size : Int) := by omega
       have HE : Hid (cd s.data.toList = (0, 0, 2)) := by
        show _ = _
        unfold cd; rw [if_pos (by rw [← ByteArray.toList_eq]; exact h1)]
       clear hd
       go_wp2_with (fail)
       simp only [Exit.jump]
       go_ret3
       exact ⟨by rw [HE.out]; rfl, rfl⟩
     · have h1 := full_of hz
       have h1' : s.toList.isEmpty = false := by simpa using h1
       have HC := Lib.hid (cd_end HK.out hz)
       have h3 : 0 < s.size := by omega
       obtain ⟨c0, hc0⟩ : ∃ c : UInt8, s[0]'h3 = c := ⟨_, rfl⟩
       rw [hc0] at HC
       by_cases k0 : k = 0
       · subst k0
         have HE : Hid (cd s.data.toList = (0, 0, 6)) := by
          show _ = _
          rw [HC.out, if_pos (.inl rfl)]
         clear HC HK
         have hdn : dg c0 = false := by
          rcases Bool.eq_false_or_eq_true (dg c0) with e | e
          · exact absurd ⟨h3, by rw [hc0]; exact e⟩ hd
          · exact e
         have HG := Lib.hid (isDigit_any c0)
         rw [hdn] at HG
         clear hdn hd
         go_wp2_with (fail)
         refine (HG.out _).mono ?_
         rintro e w' ⟨rfl, rfl⟩
         go_wp2_with (fail)
         simp only [Exit.jump]
         go_ret3
         exact ⟨by rw [HE.out]; rfl, rfl⟩
       · have g0 : ((k : Int) == 0) = false := by rw [beq_eq_false_iff_ne]; omega
         by_cases k1 : 1 < k
         · have g1 : (1 : Int) < (k : Int) := by omega
           by_cases k2 : c0.toNat = 48
           · have g2 : ((c0.toNat : Int) == 48) = true := by rw [beq_iff_eq]; omega
             have HE : Hid (cd s.data.toList = (0, 0, 6)) := by
              show _ = _
              rw [HC.out, if_pos (.inr ⟨k1, k2⟩)]
             clear HC HK k2
             by_cases hlt : k < s.size
             · have hdn : dg s[k] = false := by
                rcases Bool.eq_false_or_eq_true (dg s[k]) with e | e
                · exact absurd ⟨hlt, e⟩ hd
                · exact e
               obtain ⟨c, hc⟩ : ∃ c : UInt8, s[k] = c := ⟨_, rfl⟩
               rw [hc] at hdn
               have HG := Lib.hid (isDigit_any c)
               rw [hdn] at HG
               clear hdn hd
               go_wp2_with (fail)
               refine (HG.out _).mono ?_
               rintro e w' ⟨rfl, rfl⟩
               go_wp2_with (fail)
               simp only [Exit.jump]
               go_ret3
               exact ⟨by rw [HE.out]; rfl, rfl⟩
             · clear hd
               go_wp2_with (fail)
               simp only [Exit.jump]
               go_ret3
               exact ⟨by rw [HE.out]; rfl, rfl⟩
           · have g2 : ((c0.toNat : Int) == 48) = false := by rw [beq_eq_false_iff_ne]; omega
             have HE : Hid (cd s.data.toList = (n, k, 0)) := by
              show _ = _
              rw [HC.out, if_neg (by omega), HN.out]
             clear HC HK k2
             by_cases hlt : k < s.size
             · have hdn : dg s[k] = false := by
                rcases Bool.eq_false_or_eq_true (dg s[k]) with e | e
                · exact absurd ⟨hlt, e⟩ hd
                · exact e
               obtain ⟨c, hc⟩ : ∃ c : UInt8, s[k] = c := ⟨_, rfl⟩
               rw [hc] at hdn
               have HG := Lib.hid (isDigit_any c)
               rw [hdn] at HG
               clear hdn hd
               go_wp2_with (fail)
               refine (HG.out _).mono ?_
               rintro e w' ⟨rfl, rfl⟩
               go_wp2_with (fail)
               simp only [Exit.jump]
               go_ret3
               exact ⟨by rw [HE.out]; rfl, rfl⟩
             · clear hd
               go_wp2_with (fail)
               simp only [Exit.jump]
               go_ret3
               exact ⟨by rw [HE.out]; rfl, rfl⟩
         · have g1 : ¬ (1 : Int) < (k : Int) := by omega
           have HE : Hid (cd s.data.toList = (n, k, 0)) := by
            show _ = _
            rw [HC.out, if_neg (by omega), HN.out]
           clear HC HK
           by_cases hlt : k < s.size
           · have hdn : dg s[k] = false := by
              rcases Bool.eq_false_or_eq_true (dg s[k]) with e | e
              · exact absurd ⟨hlt, e⟩ hd
              · exact e
             obtain ⟨c, hc⟩ : ∃ c : UInt8, s[k] = c := ⟨_, rfl⟩
             rw [hc] at hdn
             have HG := Lib.hid (isDigit_any c)
             rw [hdn] at HG
             clear hdn hd
             go_wp2_with (fail)
             refine (HG.out _).mono ?_
             rintro e w' ⟨rfl, rfl⟩
             go_wp2_with (fail)
             simp only [Exit.jump]
             go_ret3
             exact ⟨by rw [HE.out]; rfl, rfl⟩
           · clear hd
             go_wp2_with (fail)
             simp only [Exit.jump]
             go_ret3
             exact ⟨by rw [HE.out]; rfl, rfl⟩
end Go.Proofs.YtimllihegnokeaaGreatDoor.Va
namespace Go.Proofs.YtimllihegnokeaaGreatDoor.Ov
open Go.ChangeShapes Go.WideShapes Go.ChangeAt Go.RowKit Go.Shelf
def preRen : Ren := ⟨fun | 99 => 262 | 206 => 253 | n => n, fun | 3 => 3 | 4 => 4 | 9 => 9 | n => n, fun n => n⟩
theorem preLays : Lays.n99 Tryz.prog preRen :=
 { mixed := by kernel_rfl
   f99 := by kernel_rfl
   f206 := by kernel_rfl
   t3 := by kernel_rfl
   a3 := fun _ => by kernel_rfl
   z3 := fun _ => by kernel_rfl
   v3 := fun _ => by kernel_rfl
   t4 := by kernel_rfl
   a4 := fun _ => by kernel_rfl
   z4 := fun _ => by kernel_rfl
   v4 := fun _ => by kernel_rfl
   t9 := by kernel_rfl
   a9 := fun _ => by kernel_rfl
   z9 := fun _ => by kernel_rfl
   v9 := fun _ => by kernel_rfl }
theorem prefix_any (s : ByteArray) (c : UInt8) (w : World) :
 Calls Tryz.prog 262 #[.string s, .string ⟨#[c]⟩] w fun e w' => e = .returned (.bool (decide (s.data.toList.head? = some c))) ∧ w = w' :=
 (Any.strings_HasPrefix preLays s ⟨#[c]⟩ w).mono fun _ _ ⟨he, hw⟩ => ⟨by
   rw [he]
   have e : Lib.hasPrefix s.data.toList [c] = decide (s.data.toList.head? = some c) := by
    unfold Lib.hasPrefix
    cases s.data.toList with
    | nil => rfl
    | cons a t => rw [Bool.eq_iff_iff]; simp [List.isPrefixOf]; exact eq_comm
   exact congrArg (fun b => Ending.returned (.bool b)) e, hw.symm⟩
end Go.Proofs.YtimllihegnokeaaGreatDoor.Ov
namespace Go.Proofs.YtimllihegnokeaaGreatDoor.Ov
open Go.ChangeShapes Go.WideShapes Go.ChangeAt Go.RowKit
theorem info8 : (Tryz.prog.info? 5).map (fun i => (i.zero, i.size, i.bytes)) = some (some (.int .u8 0), 1, 1) := by kernel_rfl
theorem run_text {w : World} {b o c : Nat} {l : List UInt8} {m : Nat} (hm : m = l.length) (h : ∀ j (hj : j < l.length), w.cell? ⟨b, o + j, none⟩ = some (.int .u8 (l[j].toNat : Int))) :
 (convert 59 9 (.slice (some ⟨b, o, none⟩) m c)).run Tryz.prog w = .ok (.string (tx l)) w := by
 have := Lib.run_convert_whole (P := Tryz.prog) w 59 5 9 Tryz.underlying59 Tryz.underlying5 Tryz.underlying9 b o (tx l) (fun i hi => by
  rw [h i (by rwa [tx_size] at hi)]; rfl) c
 rw [tx_size, ← hm] at this
 exact this
theorem step_own {P : Program} (w : World) {ops : Array Oper} {o : Oper} {a : Act} {K : Act → World → Prop} {Q : Exit → Act → World → Prop} {E : Prop} (hgd : o.guard = none) (s x : Operand) (t : TypeId)
 (ho : o.op = .call { callee := .builtin .append, args := #[s, x], argTypes := #[t, t] })
 (base : Nat) (e : TypeId) (i : TypeInfo) (z : Value) (size bytes : Nat) (ht : P.underlying t = some (.slice e)) (hi : P.info? e = some i) (hz : i.zero = some z)
 (hsize : i.size = size) (hby : i.bytes = bytes) (hzs : z.cells.size = size) (hsz : 0 < size)
 (v : Value) (n : Nat) (xs : List Value) (hs : a.eval s = v) (hown : w.ownsRow base e size v n xs)
 (ad : Addr) (m c : Nat) (news : List Value) (hx : a.eval x = .slice (some ad) m c) (hl : news.length = m * size) (hnews : ∀ j u, news[j]? = some u → w.cell? (ad.add j) = some u) (h1 : ∀ u ∈ news, u.oneCell' = true)
 (h63 : n + m ≤ maxLen) (hbytes : (n + m) * bytes ≤ 140737488355328) (hbase : base ≤ w.heap.size)
 (h : ∀ v' w', w'.ownsRow base e size v' (n + m) (xs ++ news) → w.grownBy w' v.ownBlock → (v' = .slice none 0 0 ↔ v = .slice none 0 0 ∧ m = 0) → K (a.put o.dst v') w') :
 if Region.wanted o (yielded ops a.tmps) = true then Oper.wp P o a w K Q else E := by
 have hw : Region.wanted o (yielded ops a.tmps) = true := by simp [Region.wanted, hgd]
 rw [if_pos hw]
 exact wp_append_own w s x t ho base e i z size bytes ht hi hz hsize hby hzs hsz v n xs hs hown ad m c news hx hl hnews h1 h63 hbytes hbase h
theorem one_news (w : World) (v : Value) (ty : TypeId) : ∀ j u, [v][j]? = some u → (w.alloc (.cells #[v] ty)).cell? ((⟨w.heap.size, 0, none⟩ : Addr).add j) = some u := by
 intro a u ha
 match a, ha with
 | 0, ha =>
   simp at ha; subst ha
   simp [Addr.add]
theorem one_one {v : Value} (h : v.oneCell' = true) : ∀ u ∈ [v], u.oneCell' = true := by
 intro u hu; simp at hu; subst hu; exact h
def vals (l : List UInt8) : List Value := l.map fun b => Value.int .u8 (b.toNat : Int)
theorem vals_snoc (l : List UInt8) (b : UInt8) : vals (l ++ [b]) = vals l ++ [.int .u8 (b.toNat : Int)] := by simp [vals]
theorem vals_get (l : List UInt8) (j : Nat) (h : j < l.length) : (vals l)[j]? = some (.int .u8 (l[j].toNat : Int)) := by simp [vals, h]
theorem run_own_text {w : World} {base m : Nat} {v : Value} {l : List UInt8} (hm : m = l.length) (h : w.ownsRow base 5 1 v m (vals l)) (q : Over w) : (convert 59 9 v).run Tryz.prog q.val = .ok (.string (tx l)) q.val := by
 subst hm
 rcases h.2 with ⟨e1, e2⟩ | ⟨g, cap, cur, rfl, _⟩
 · subst e1
   have hl : l = [] := by
    cases l with
    | nil => rfl
    | cons b l => exact absurd e2 (by simp)
   subst hl
   rw [run_convert_bytes_nil q.val 59 5 Tryz.underlying59 Tryz.underlying5 0 0 9 Tryz.underlying9]
   rfl
 · exact run_text rfl fun j hj => over_cell q (by rw [Nat.zero_add, h.cellAt j (by omega)]; exact vals_get l j hj)
section
variable {P : Program} {ops : Array Oper} {md : Region.Mode} {C : World → Prop}
def Heads (P : Program) (md : Region.Mode) (ops : Array Oper) (C : World → Prop) (n : Nat) (L : Array Bool → Act → Prop) : Nat → Array Bool → Act → Prop
 | 0, listed, a => L listed a
 | f + 1, listed, a => Region.ready md ops listed ≠ [] ∧ ∀ i ∈ Region.ready md ops listed, i < n ∧ qOp P ops C i (Heads P md ops C n L f (listed.setIfInBounds i true)) a
theorem Heads.any {n g : Nat} {L : Array Bool → Act → Prop} {Q' : Exit → Act → World → Prop} (hL : ∀ listed a w, C w → L listed a → wpAny P md ops Q' g listed a w) :
 ∀ (f : Nat) (listed : Array Bool) (a : Act) (w : World), C w → Heads P md ops C n L f listed a → wpAny P md ops Q' (f + g) listed a w
 | 0, listed, a, w, hw, h => by rw [Nat.zero_add]; exact hL _ _ _ hw h
 | f + 1, listed, a, w, hw, h => by
   rw [show f + 1 + g = (f + g) + 1 by omega]
   exact ⟨fun h0 => absurd h0 h.1, fun i hi => wpOp_of_qOp hw (fun a' w' hw' h' => Heads.any hL f _ a' w' hw' h') (h.2 i hi).2⟩
theorem Heads.first {n i : Nat} {oi : Oper} {v : Value} {L : Array Bool → Act → Prop} (hi : ops[i]? = some oi) (hsel : ∀ (j : Nat) (o : Oper) cs b, ops[j]? = some o → o.op ≠ .select cs b)
 (hs : Region.sinkB md ops n = true) (hc : Region.chainB md ops n = true) (hn : n < ops.size) (hin : i < n) (hdone : ∀ listed a, L listed a → ∀ j ∈ Region.ready md ops listed, n ≤ j) (f : Nat) :
 ∀ (listed : Array Bool) (a : Act), HeadInv md ops n listed →
  (∀ j oj, ops[j]? = some oj → j ≠ i → listed.getD j true = false → (∀ e ∈ oj.after, Region.binds md e = true → e.on ≠ i) → oi.apart ops oj = true) →
  i ∈ Region.ready md ops listed → YieldsIn P ops C oi v a →
  Heads P md ops C n L f (listed.setIfInBounds i true) (a.put oi.dst v) → Heads P md ops C n L (f + 1) listed a := by
 induction f with
 | zero =>
   intro listed a inv hfree hr hy H
   have hun := (mem_ready.1 hr).1
   refine ⟨List.ne_nil_of_mem hr, fun j hj => ?_⟩
   have hjn : j < n := Nat.lt_of_not_le fun h => tail_waits hs hc hn inv _ i rfl hin hun j h hj
   refine ⟨hjn, ?_⟩
   rcases Nat.decEq j i with e | rfl
   · exact absurd (hdone _ _ H j (ready_mono hj e)) (by omega)
   · exact hy.qOp hi H
 | succ f ih =>
   intro listed a inv hfree hr hy H
   have hun := (mem_ready.1 hr).1
   refine ⟨List.ne_nil_of_mem hr, fun j hj => ?_⟩
   have hjn : j < n := Nat.lt_of_not_le fun h => tail_waits hs hc hn inv _ i rfl hin hun j h hj
   refine ⟨hjn, ?_⟩
   rcases Nat.decEq j i with e | rfl
   · obtain ⟨hjun, oj, hoj, hall⟩ := mem_ready.1 hj
     have hnot : ∀ e ∈ oj.after, Region.binds md e = true → e.on ≠ i := by
      intro d hd hb he
      have h1 := hall d hd hb
      rw [he, getD_both hun] at h1
      cases h1
     refine qOp_mono (fun a' h3 => ih (listed.setIfInBounds j true) a' (inv.set hj hjn) ?_ (ready_mono hr (Ne.symm e)) h3.1 ?_)
      (qOp_put hoj (hfree j oj hoj e hjun hnot) (fun cs b => hsel i oi cs b hi) (fun cs b => hsel j oj cs b hoj) hy (H.2 j (ready_mono hj e)).2)
     · intro k ok hk hki hku hno
       refine hfree k ok hk hki ?_ hno
       rcases Nat.decEq j k with d | rfl
       · rwa [getD_set_ne true d] at hku
       · exact hjun
     · rw [Array.setIfInBounds_comm _ _ e]; exact h3.2
   · exact hy.qOp hi H
theorem Heads.lex {n g : Nat} {Lq : Act → Prop} (hsel : Region.noSelect ops = true) (hs : Region.sinkB md ops n = true) (hc : Region.chainB md ops n = true) (hn : n < ops.size) :
 ∀ (l : List Oper) (k : Nat) (listed : Array Bool) (a : Act), (∀ j, j < l.length → l[j]? = ops[k + j]?) → k + l.length = n → HeadInv md ops n listed →
 Region.lexHead md ops g l.length k listed = true → wpQuiet P ops C Lq l a →
 Heads P md ops C n (fun listed' a' => Region.seqB md ops g n listed' = true ∧ Lq a') l.length listed a
 | [], k, listed, a, _, hk, _, hB, h => by
   obtain rfl : k = n := by simpa using hk
   exact ⟨by simpa [Region.lexHead] using hB, h⟩
 | o :: l, k, listed, a, hl, hk, inv, hB, h => by
   have h0 : ops[k]? = some o := by simpa using (hl 0 (by simp)).symm
   simp only [List.length_cons, Region.lexHead, Bool.and_eq_true] at hB
   obtain ⟨⟨hr, hf⟩, hB'⟩ := hB
   have hr' : k ∈ Region.ready md ops listed := by simpa using hr
   have hk' : k + 1 + l.length = n := by rw [← hk, List.length_cons]; omega
   have hkn : k < n := by omega
   obtain ⟨v, hy, hK⟩ := yieldsIn_of_qOp h0 (show qOp P ops C k (wpQuiet P ops C Lq l) a by unfold qOp; simp only [h0]; exact h)
   exact Heads.first h0 (Region.noSelect_spec hsel) hs hc hn hkn (fun listed' a' hL => seqB_ready hL.1) l.length listed a inv (Region.free_spec h0 hf) hr' hy
    (Heads.lex hsel hs hc hn l (k + 1) _ _ (fun j hj => by have := hl (j + 1) (by simp; omega); simpa [Nat.add_assoc, Nat.add_comm 1 j] using this) hk' (inv.set hr' hkn) hB' hK)
theorem wp_quiet_tail {id : Nat} {Q : Exit → Act → World → Prop} {a : Act} {w : World} {l : List Oper} (n : Nat) (hm : P.follows .mixedOrders = true) (hB : Region.lexTailB .any l.toArray n = true) (hC : C { w with drawn := w.drawn + 1 })
 (h : wpQuiet P l.toArray C (fun a' => ∀ w', C w' → wpList P l.toArray Q (l.drop n) a' w') (l.take n) a) : (Code.region id l.toArray true).wp P Q a w := by
 simp only [Region.lexTailB, Bool.and_eq_true, decide_eq_true_eq] at hB
 obtain ⟨⟨⟨⟨hsel, hn⟩, hs⟩, hc⟩, hlex⟩ := hB
 have hn' : n < l.length := by simpa using hn
 have htl : (l.take n).length = n := by simp; omega
 have hdl : (l.drop n).length = l.toArray.size - n := by simp
 have inv0 : HeadInv .any l.toArray n (Array.replicate l.toArray.size false) :=
  ⟨by simp, fun j oj _ hl => (by rw [getD_replicate_false] at hl; cases hl), fun t _ ht => getD_in (by simpa using ht) (getD_replicate_false _ _)⟩
 have H := Heads.lex (md := .any) (g := l.toArray.size - n) hsel hs hc hn (l.take n) 0 _ a (fun j hj => by
  have hj' : j < n := by rw [htl] at hj; exact hj
  simp [hj']) (by simpa using htl) inv0 (by rw [htl]; exact hlex) h
 refine wp_region_any hm ?_
 have H2 := Heads.any (Q' := Q) (g := l.toArray.size - n) (fun listed a' w' hw hL => by
  have h1 := wpAny_of_seq (md := .any) (Q' := Q) (l.drop n) n listed a' w' (fun j => by simp [List.getElem?_drop]) (by rw [hdl]; exact hL.1) (hL.2 w' hw)
  rwa [hdl] at h1) _ _ _ _ hC H
 rw [htl, show n + (l.toArray.size - n) = l.toArray.size by omega] at H2
 exact H2
end
theorem wp_over_tail {P : Program} {id : Nat} {Q : Exit → Act → World → Prop} {a : Act} {w : World} {l : List Oper} (n : Nat) (hm : P.follows .mixedOrders = true) (hB : Region.lexTailB .any l.toArray n = true)
 (h : wpQuiet P l.toArray (fun w' => ∃ q : Over w, w' = q.val) (fun a' => ∀ w', (∃ q : Over w, w' = q.val) → wpList P l.toArray Q (l.drop n) a' w') (l.take n) a) : (Code.region id l.toArray true).wp P Q a w :=
 wp_quiet_tail (C := fun w' => ∃ q : Over w, w' = q.val) n hm hB ⟨⟨w.drew, below_drewN (Below.refl _ _) 1⟩, rfl⟩ h
end Go.Proofs.YtimllihegnokeaaGreatDoor.Ov
namespace Go.Proofs.YtimllihegnokeaaGreatDoor.Va
open Go.ChangeShapes Go.WideShapes Go.ChangeAt Go.RowKit Ov Tp
section
variable {H : Type} {enc : TypeId × Value → H} {w : World} {base : Nat} {spare : Nat → Bool} {held : Bool}
end
end Go.Proofs.YtimllihegnokeaaGreatDoor.Va
namespace Go.Proofs.YtimllihegnokeaaGreatDoor.Jo
open Ov Va
def sat5 (l : List UInt8) : Nat := l.foldl (fun a c => min (10 * a + (c.toNat - 48)) 100001) 0
theorem sat5_snoc (l : List UInt8) (c : UInt8) : sat5 (l ++ [c]) = min (10 * sat5 l + (c.toNat - 48)) 100001 := by
 unfold sat5; rw [List.foldl_append]; rfl
theorem sat5_dv (l : List UInt8) : sat5 l = min (dv l) 100001 := by
 induction l using snoc_ind with
 | h0 => rfl
 | h1 l c ih => rw [sat5_snoc, dv_snoc, ih]; omega
theorem sat5_le (l : List UInt8) : sat5 l ≤ 100001 := by rw [sat5_dv]; omega
def cl5 (m : Int) : Int := if 100001 < m then 100001 else if m < -100001 then -100001 else m
theorem cl5_in {m : Int} (h : -100000 ≤ cl5 m ∧ cl5 m ≤ 100000) : cl5 m = m := by
 unfold cl5 at *
 by_cases h1 : 100001 < m
 · rw [if_pos h1] at h; omega
 · rw [if_neg h1] at h ⊢
   by_cases h2 : m < -100001
   · rw [if_pos h2] at h; omega
   · rw [if_neg h2]
theorem cl5_of {m : Int} (h : -100000 ≤ m ∧ m ≤ 100000) : cl5 m = m := by
 unfold cl5; rw [if_neg (by omega), if_neg (by omega)]
def digs (w : List UInt8) : List UInt8 := if w.head? = some 45 then w.tail else w
def dcm (w : List UInt8) : Option Int :=
 if digs w = [] ∨ ((digs w).head? = some 48 ∧ w ≠ [48]) then none
 else if (digs w).all dg = true then some (if w.head? = some 45 then -(sat5 (digs w) : Int) else (sat5 (digs w) : Int))
 else none
theorem dcm_some {w : List UInt8} {n : Int} (h : dcm w = some n) : ∃ m, w = Lib.itoa m ∧ n = cl5 m := by
 unfold dcm at h
 split at h
 · cases h
 rename_i h1
 split at h
 · rename_i h2
   injection h with h
   have ha : ∀ c ∈ digs w, dg c = true := fun c hc => List.all_eq_true.1 h2 c hc
   by_cases hm : w.head? = some 45
   · rw [if_pos hm] at h
     have hw : w = 45 :: digs w := by
      unfold digs; rw [if_pos hm]
      cases w with
      | nil => cases hm
      | cons c t => injection hm with hm; rw [hm]; rfl
     have hne : digs w ≠ [] := fun e => h1 (Or.inl e)
     have hh : (digs w).head? ≠ some 48 := fun e => h1 (Or.inr ⟨e, fun e2 => by rw [e2] at hm; exact absurd hm (by decide)⟩)
     have hp := dv_pos hne ha hh
     have hd := dec_of (digs w) hne ha (fun _ => hh)
     refine ⟨-(dv (digs w) : Int), ?_, ?_⟩
     · unfold Lib.itoa
       rw [if_pos (by omega), show (-(dv (digs w) : Int)).natAbs = dv (digs w) by omega, hd]
       exact hw
     · rw [← h, sat5_dv]; unfold cl5; repeat' split
       all_goals omega
   · rw [if_neg hm] at h
     have hw : digs w = w := by unfold digs; rw [if_neg hm]
     rw [hw] at h h1 ha
     have hne : w ≠ [] := fun e => h1 (Or.inl e)
     have hb : bare w := fun hl e => h1 (Or.inr ⟨e, fun e2 => by rw [e2] at hl; exact absurd hl (by decide)⟩)
     have hd := dec_of w hne ha hb
     refine ⟨(dv w : Int), ?_, ?_⟩
     · unfold Lib.itoa
       rw [if_neg (by omega)]
       rw [show ((dv w : Nat) : Int).toNat = dv w by omega]
       exact hd.symm
     · rw [← h, sat5_dv]; unfold cl5; repeat' split
       all_goals omega
 · cases h
theorem dec_head (m : Nat) : (Lib.decDigits m).head? ≠ some 45 := by
 cases h : Lib.decDigits m with
 | nil => exact fun e => by cases e
 | cons c t =>
   intro e
   injection e with e
   have := dec_all m c (by rw [h]; exact List.mem_cons_self)
   rw [e] at this
   exact absurd this (by decide)
theorem dcm_itoa (m : Int) : dcm (Lib.itoa m) = some (cl5 m) := by
 unfold Lib.itoa
 split
 · rename_i hm
   have e1 : digs (45 :: Lib.decDigits m.natAbs) = Lib.decDigits m.natAbs := if_pos rfl
   have e2 : (45 :: Lib.decDigits m.natAbs).head? = some (45 : UInt8) := rfl
   unfold dcm
   rw [e1]
   rw [if_neg, if_pos, if_pos e2]
   · rw [sat5_dv, dec_dv]; congr 1; unfold cl5; repeat' split
     all_goals omega
   · exact List.all_eq_true.2 (dec_all _)
   · rintro (h | ⟨h, _⟩)
     · exact dec_ne _ h
     · exact (dec_bare m.natAbs).2 (by omega) h
 · rename_i hm
   have e0 : ¬ (Lib.decDigits m.toNat).head? = some 45 := dec_head _
   have e1 : digs (Lib.decDigits m.toNat) = Lib.decDigits m.toNat := by unfold digs; rw [if_neg e0]
   unfold dcm
   rw [e1]
   rw [if_neg, if_pos, if_neg e0]
   · rw [sat5_dv, dec_dv]; congr 1; unfold cl5; repeat' split
     all_goals omega
   · exact List.all_eq_true.2 (dec_all _)
   · rintro (h | ⟨h, h2⟩)
     · exact dec_ne _ h
     · by_cases h0 : 1 ≤ m.toNat
       · exact (dec_bare m.toNat).2 h0 h
       · apply h2
         rw [show m.toNat = 0 by omega, dec_small (by omega)]
         rfl
end Go.Proofs.YtimllihegnokeaaGreatDoor.Jo
namespace Go.Proofs.YtimllihegnokeaaGreatDoor.Jo
open Ov Ga Va
def wSum : List UInt8 := [115, 117, 109]
def wMax : List UInt8 := [109, 97, 120]
def wMin : List UInt8 := [109, 105, 110]
def wGcd : List UInt8 := [103, 99, 100]
def isF (w : List UInt8) : Bool := decide (w = wSum ∨ w = wMax ∨ w = wMin ∨ w = wGcd)
def rg (n b : Int) : Int := (n + b) % (2 * b) - b
def vz0 : Va := ⟨0, 0, [], 0, 0⟩
def pp (v : Va) : Pt := ⟨v.x, v.y⟩
def vp (p : Pt) : Va := ⟨2, 0, [], p.x, p.y⟩
def vn (n : Int) : Va := ⟨0, n, [], 0, 0⟩
def okk (w : List UInt8) (k : Int) : Bool := decide (w = wMax ∨ w = wMin ∨ k = 0 ∨ k = 2)
def opf (w : List UInt8) (a b : Va) : Va :=
 if w = wMax ∨ w = wMin then (if decide (ord a b < 0) = decide (w = wMax) then b else a)
 else if a.k = 0 then vn (if w = wSum then rg (a.n + b.n) 9007199254740992 else (Int.gcd a.n b.n : Int))
 else vp (if w = wSum then ⟨rg (a.x + b.x) 16777216, rg (a.y + b.y) 16777216⟩ else Pt.cg (pp a) (pp b))
def fo (w : List UInt8) (a b : Va) : Va × Int :=
 if isF w = true ∧ rt a = true ∧ rt b = true then
  if a.k = b.k ∧ okk w a.k = true then (opf w a b, 0) else (vz0, 13)
 else (vz0, 1)
theorem rt_k0 {v : Va} (h : rt v = true) (hk : v.k = 0) : (-9007199254740992 ≤ v.n ∧ v.n ≤ 9007199254740992) ∧ v = vn v.n := by
 obtain ⟨k, n, s, x, y⟩ := v
 rcases rt_yes h with ⟨h0, h1, h2, h3, h4, h5⟩ | ⟨h0, _⟩ | ⟨h0, _⟩
 · simp only at h0 h1 h2 h3 h4 h5 ⊢; subst h0 h3 h4 h5; exact ⟨⟨h1, h2⟩, rfl⟩
 · simp only at h0 hk; omega
 · simp only at h0 hk; omega
theorem rt_k2 {v : Va} (h : rt v = true) (hk : v.k = 2) : rb (pp v) = true ∧ v = vp (pp v) := by
 obtain ⟨k, n, s, x, y⟩ := v
 rcases rt_yes h with ⟨h0, _⟩ | ⟨h0, _⟩ | ⟨h0, h1, h2, h3⟩
 · simp only at h0 hk; omega
 · simp only at h0 hk; omega
 · simp only at h0 h1 h2 h3 ⊢; subst h0 h1 h2; exact ⟨h3, rfl⟩
theorem fo_yes {w : List UInt8} {a b : Va} (h : isF w = true ∧ rt a = true ∧ rt b = true) : fo w a b = if a.k = b.k ∧ okk w a.k = true then (opf w a b, 0) else (vz0, 13) := if_pos h
theorem fo_no {w : List UInt8} {a b : Va} (h : ¬ (isF w = true ∧ rt a = true ∧ rt b = true)) : fo w a b = (vz0, 1) := if_neg h
end Go.Proofs.YtimllihegnokeaaGreatDoor.Jo
namespace Go.Proofs.YtimllihegnokeaaGreatDoor.Jo
open Go.ChangeShapes Go.WideShapes Go.ChangeAt Go.RowKit Ov Ga Va
theorem below_box {w0 w : World} (h : Below w0.heap.size w0 w) (o : Obj) : Below w0.heap.size w0 (w.alloc o) := h.alloc h.size o
theorem rest_emod {n b : Int} (hb : 0 < b) : (n.tmod b + b).tmod b = n % b := by
 by_cases h : 0 ≤ n
 · rw [Int.tmod_eq_emod_of_nonneg h, Int.tmod_eq_emod_of_nonneg (by have := Int.emod_nonneg n (show b ≠ 0 by omega); omega), Int.add_emod_right, Int.emod_emod]
 · have h2 := Int.lt_tmod_of_pos n hb
   rw [Int.tmod_eq_emod_of_nonneg (by omega), Int.add_emod_right]
   conv => rhs; rw [← Int.tmod_add_mul_tdiv n b, Int.add_mul_emod_self_left]
set_option maxRecDepth 100000 in
theorem rest_any (n b : Int) (hb : 0 < b ∧ b ≤ 18014398509481984) (w : World) : Calls Tryz.prog 59 #[.int .i64 n, .int .i64 b] w (Gives (.int .i64 (n % b)) w) := by
 have h1 := Int.lt_tmod_of_pos n hb.1
 have h2 := Int.tmod_lt_of_pos n hb.1
 have h3 : wrap64 (n.tmod b + b) = n.tmod b + b := IntWalk.wrap64_in _ (by omega)
 have h4 := rest_emod (n := n) hb.1
 have h5 : (b == 0) = false := beq_eq_false_iff_ne.2 (by omega)
 go_enter Tryz.func59, Tryz.ntmps59
 go_wp2_with (fail)
 go_ret
 exact ⟨rfl, Below.refl _ _⟩
set_option maxRecDepth 100000 in
theorem round_any (n b : Int) (hb : 0 < b ∧ b ≤ 9007199254740992) (hn : -36028797018963968 ≤ n ∧ n ≤ 36028797018963968) (w : World) : Calls Tryz.prog 89 #[.int .i64 n, .int .i64 b] w (Gives (.int .i64 (rg n b)) w) := by
 have HC := Lib.hid (fun w => rest_any (n + b) (2 * b) ⟨by omega, by omega⟩ w)
 have h1 : wrap64 (n + b) = n + b := IntWalk.wrap64_in _ (by omega)
 have h2 : wrap64 (2 * b) = 2 * b := IntWalk.wrap64_in _ (by omega)
 have h3 := Int.emod_nonneg (n + b) (show 2 * b ≠ 0 by omega)
 have h4 := Int.emod_lt_of_pos (n + b) (show 0 < 2 * b by omega)
 have h5 : wrap64 ((n + b) % (2 * b) - b) = rg n b := IntWalk.wrap64_in _ (by omega)
 clear h3 h4 hb hn
 go_enter Tryz.func89, Tryz.ntmps89
 go_wp2_with (fail)
 refine (HC.out _).mono ?_
 rintro e w1 ⟨rfl, hb⟩
 have HB := Lib.hid hb; clear hb
 go_wp2_with (fail)
 go_ret
 exact ⟨by rw [h5]; rfl, HB.out⟩
theorem isF_text (s : ByteArray) : isF s.data.toList = (s.toList == [115, 117, 109] || s.toList == [109, 97, 120] || s.toList == [109, 105, 110] || s.toList == [103, 99, 100]) := by
 rw [ByteArray.toList_eq, Bool.eq_iff_iff]
 unfold isF wSum wMax wMin wGcd
 rw [decide_eq_true_iff]
 simp only [Bool.or_eq_true, beq_iff_eq, or_assoc]
theorem isF_any (s : ByteArray) (w : World) : Calls Tryz.prog 49 #[.string s] w (Gives (.bool (isF s.data.toList)) w) := by
 go_enter Tryz.func49, Tryz.ntmps49
 go_wp2_with (fail)
 all_goals
  go_ret
  refine ⟨?_, Below.refl _ _⟩
  rw [isF_text]; simp_all
theorem gcd_tmod (a b : Int) : Int.gcd b (a.tmod b) = Int.gcd a b := by
 rw [Int.gcd_comm a b]
 have h : a = a.tmod b + b * a.tdiv b := (Int.tmod_add_mul_tdiv a b).symm
 conv => rhs; rw [h]
 rw [Int.gcd_add_mul_left_right]
def JC (a b : Int) (w : World) (a' : Act) (w' : World) : Prop := ∃ (p q : Int) (u2 u3 u5 u6 u7 u8 u9 u10 u11 u12 u13 u14 : Value),
 (-9007199254740992 ≤ p ∧ p ≤ 9007199254740992) ∧ (-9007199254740992 ≤ q ∧ q ≤ 9007199254740992) ∧ Int.gcd p q = Int.gcd a b ∧ Below w.heap.size w w' ∧
 a' = { tmps := #[.int .i64 p, .int .i64 q, u2, u3, .int .i64 0, u5, u6, u7, u8, u9, u10, u11, u12, u13, u14], defers := [] }
def muC (a' : Act) (_ : World) : Nat := match a'.tmps[1]! with
 | .int _ q => q.natAbs
 | _ => 0
set_option maxRecDepth 100000 in
theorem common_any (a b : Int) (ha : -9007199254740992 ≤ a ∧ a ≤ 9007199254740992) (hb : -9007199254740992 ≤ b ∧ b ≤ 9007199254740992) (w : World) : Calls Tryz.prog 90 #[.int .i64 a, .int .i64 b] w (Gives (.int .i64 (Int.gcd a b : Int)) w) := by
 have HA := Lib.hid ha; have HH := Lib.hid hb; clear ha hb
 go_enter Tryz.func90, Tryz.ntmps90
 go_wp2_with (fail)
 refine wp_scope_once 0 (JC a b w) muC rfl (fun NX => ?_) ?_
 · go_wp2_with (fail)
   go_step3
   rename_i hK
   exact hK _ _ (NX.out _ _ ⟨a, b, _, _, _, _, _, _, _, _, _, _, _, _, HA.out, HH.out, rfl, Below.refl _ _, rfl⟩)
 · rintro a' w' ⟨p, q, u2, u3, u5, u6, u7, u8, u9, u10, u11, u12, u13, u14, hp, hq, hg, hbl, rfl⟩
   have HP := Lib.hid hp; have HQ := Lib.hid hq; have HG := Lib.hid hg; have HB := Lib.hid hbl; clear hp hq hg hbl
   by_cases h0 : q = 0
   · subst h0
     have HE : Hid (max p (wrap64 (-p)) = (Int.gcd a b : Int)) := by
      show _ = _
      have := HP.out
      rw [IntWalk.wrap64_in _ (by omega), ← HG.out, Int.gcd_zero_right]; omega
     go_wp2_with (fail)
     go_ret
     exact ⟨by rw [HE.out]; rfl, HB.out⟩
   · have h1 : (q == 0) = false := beq_eq_false_iff_ne.2 h0
     go_wp2_with (fail)
     go_region
     go_wp2_with (fail)
     go_step3
     have h2 : (p.tmod q).natAbs < q.natAbs := by rw [Int.natAbs_tmod]; exact Nat.mod_lt _ (by omega)
     have hq := HQ.out
     exact ⟨rfl, ⟨q, p.tmod q, _, _, _, _, _, _, _, _, _, _, _, _, HQ.out, by omega, by rw [gcd_tmod]; exact HG.out, HB.out.drew, rfl⟩, h2⟩
def nb1 (c : UInt8) : Bool := !((c < 97 || 122 < c) && (c < 48 || 57 < c))
def nmOk (s : List UInt8) : Bool := s.all nb1 && (!s.isEmpty && decide (s.length ≤ 16))
def wn1 (n most : Int) : Bool := decide (1 ≤ n) && decide (n ≤ most)
theorem within_any (n most : Int) (w : World) : Calls Tryz.prog 69 #[.int .i64 n, .int .i64 most] w (Gives (.bool (wn1 n most)) w) := by
 go_enter Tryz.func69, Tryz.ntmps69
 go_wp2_with (fail)
 all_goals
  go_ret
  refine ⟨?_, Below.refl _ _⟩
  show Ending.returned (.bool _) = Ending.returned (.bool _)
  congr 2
  unfold wn1
  rw [Bool.eq_iff_iff]; simp; try omega
theorem nb1_int (c : UInt8) : nb1 c = !((decide ((c.toNat : Int) < 97) || decide (122 < (c.toNat : Int))) && (decide ((c.toNat : Int) < 48) || decide (57 < (c.toNat : Int)))) := by
 unfold nb1
 rw [Bool.eq_iff_iff]
 simp [UInt8.lt_iff_toNat_lt]; omega
theorem nmOk_bad {s : ByteArray} {k : Nat} (h : k < s.size) {c : UInt8} (hc : s[k] = c) (hn : nb1 c = false) : nmOk s.data.toList = false := by
 have h2 : s.data.toList.all nb1 = false := by
  rw [List.all_eq_false]
  exact ⟨c, by rw [← hc]; exact List.getElem_mem (l := s.data.toList) (n := k) (by simpa using h), by rw [hn]; decide⟩
 unfold nmOk; rw [h2, Bool.false_and]
theorem all_more {s : ByteArray} {k : Nat} (h : k < s.size) {c : UInt8} (hc : s[k] = c) (hn : nb1 c = true) (hall : (s.data.toList.take k).all nb1 = true) : (s.data.toList.take (k + 1)).all nb1 = true := by
 have e : s.data.toList.take (k + 1) = s.data.toList.take k ++ [c] := by
  rw [List.take_succ_eq_append_getElem (by simpa using h)]; rw [← hc]; rfl
 rw [e, List.all_append, hall]; simp [hn]
theorem name_any (s : ByteArray) (hs : s.size ≤ 9223372036854775807) (w : World) : Calls Tryz.prog 34 #[.string s] w (Gives (.bool (nmOk s.data.toList)) w) := by
 go_enter Tryz.func34, Tryz.ntmps34
 go_wp2_with (fail)
 go_loop [6] (fun i => ∃ k : Nat, k ≤ s.size ∧ i = .int .i64 (k : Int) ∧ (s.data.toList.take k).all nb1 = true) (fun i => s.size - (intOf i).toNat)
 case atStart => exact ⟨0, Nat.zero_le _, rfl, rfl⟩
 case round =>
  obtain ⟨k, hk, rfl, hall⟩ := hrel
  have HA := Lib.hid hall; clear hall
  by_cases hlt : k < s.size
  · obtain ⟨c, hc⟩ : ∃ c : UInt8, s[k] = c := ⟨_, rfl⟩
    have hcl := c.toNat_lt
    have HC := Lib.hid hc
    have HN := Lib.hid (nb1_int c)
    go_wp2_with (fail)
    all_goals first
     | (refine ⟨⟨k + 1, by omega, by go_num, all_more hlt HC.out ?_ HA.out⟩, by simp [intOf]; omega⟩
        rw [HN.out]; simp only [Bool.not_eq_true', Bool.and_eq_false_iff, Bool.or_eq_false_iff, decide_eq_false_iff_not]; omega)
     | (go_ret
        refine ⟨?_, Below.refl _ _⟩
        rw [nmOk_bad hlt HC.out (by rw [HN.out]; simp only [Bool.not_eq_false', Bool.and_eq_true, Bool.or_eq_true, decide_eq_true_eq]; omega)]; rfl)
  · obtain rfl : k = s.size := by omega
    have HE : Hid (nmOk s.data.toList = (!s.toList.isEmpty && decide (s.size ≤ 16))) := by
     show _ = _
     have h := HA.out
     rw [List.take_of_length_le (by simp)] at h
     unfold nmOk; rw [h, Bool.true_and, ByteArray.toList_eq]; simp
    go_wp2_with (fail)
    all_goals
     go_ret
     refine ⟨?_, Below.refl _ _⟩
     rw [HE.out]
     show Ending.returned (.bool _) = Ending.returned (.bool _)
     congr 2
     rw [Bool.eq_iff_iff]; simp_all; try omega
end Go.Proofs.YtimllihegnokeaaGreatDoor.Jo
namespace Go.Proofs.YtimllihegnokeaaGreatDoor.Ov
open Ieee
theorem log2_shift {v : Nat} (hv : v ≠ 0) (k : Nat) : (v * 2 ^ k).log2 = v.log2 + k := by
 have h2 : 0 < 2 ^ k := Nat.two_pow_pos k
 rw [Nat.log2_eq_iff (Nat.mul_ne_zero hv (Nat.ne_of_gt h2))]
 refine ⟨?_, ?_⟩
 · rw [Nat.pow_add]; exact Nat.mul_le_mul_right _ (Nat.log2_self_le hv)
 · rw [show v.log2 + k + 1 = v.log2 + 1 + k by omega, Nat.pow_add]; exact Nat.mul_lt_mul_of_pos_right Nat.lt_log2_self h2
theorem cut_whole (way : Toward) (s : Bool) (v k : Nat) : way.cut s (v * 2 ^ k) k = v := by
 have h2 : 0 < 2 ^ k := Nat.two_pow_pos k
 have hg : (v * 2 ^ k) / (1 <<< min k ((v * 2 ^ k).log2 + 2)) = v ∧ (v * 2 ^ k) % (1 <<< min k ((v * 2 ^ k).log2 + 2)) = 0 ∧ 1 <<< min k ((v * 2 ^ k).log2 + 2) ≠ 0 := by
  by_cases hv : v = 0
  · subst hv; simp
  · rw [log2_shift hv, Nat.min_eq_left (by omega), Nat.one_shiftLeft]
    exact ⟨Nat.mul_div_cancel _ h2, Nat.mul_mod_left _ _, Nat.ne_of_gt h2⟩
 obtain ⟨h1, h3, h4⟩ := hg
 unfold Toward.cut
 simp only [h1, h3]
 generalize 1 <<< min k ((v * 2 ^ k).log2 + 2) = g at *
 cases way <;> simp [h4]
def DIs (d : Datum) (n : Int) : Prop := ∃ (s : Bool) (v k : Nat), d = .number s (v * 2 ^ k) (-(k : Int)) ∧ n = if s then -(v : Int) else v
theorem DIs.num (s : Bool) (v k : Nat) : DIs (.number s (v * 2 ^ k) (-(k : Int))) (if s then -(v : Int) else v) := ⟨s, v, k, rfl, rfl⟩
theorem dsw : Ieee.double.signWeight = 9223372036854775808 := by decide +kernel
theorem dbi : Ieee.double.binade = 4503599627370496 := by decide +kernel
theorem din : Ieee.double.infRung = 9218868437227405312 := by decide +kernel
theorem dlp : Ieee.double.leastPlace = -1074 := by decide +kernel
theorem dfb : Ieee.double.fractionBits = 52 := rfl
theorem rung_mod {e m B : Nat} (h : m < B) : (e * B + (B + m)) % B = m ∧ (e * B + (B + m)) / B - 1 = e := by
 have e1 : e * B + (B + m) = m + (e + 1) * B := by rw [Nat.add_mul, Nat.one_mul]; omega
 rw [e1, Nat.add_mul_mod_self_right, Nat.mod_eq_of_lt h, Nat.add_mul_div_right _ _ (by omega), Nat.div_eq_of_lt h]
 exact ⟨rfl, by omega⟩
theorem read_word (s : Bool) (e m : Nat) (he : e < 2046) (hm : m < 4503599627370496) :
 Ieee.double.read (Ieee.double.word s (e * 4503599627370496 + (4503599627370496 + m))) = .number s (4503599627370496 + m) (-1074 + (e : Int)) := by
 have hw : Ieee.double.word s (e * 4503599627370496 + (4503599627370496 + m)) = (if s then 1 else 0) * 9223372036854775808 + (e * 4503599627370496 + (4503599627370496 + m)) := by
  unfold Format.word; rw [dsw]; cases s <;> simp
 unfold Format.read
 simp only [hw, dsw, dbi, din, dlp]
 obtain ⟨b, hb⟩ : ∃ b : Nat, b = if s then 1 else 0 := ⟨_, rfl⟩
 rw [← hb]
 have hb1 : b < 2 ∧ (b = 1 ↔ s = true) := by subst hb; cases s <;> simp
 clear hw hb
 have h1 : (b * 9223372036854775808 + (e * 4503599627370496 + (4503599627370496 + m))) % 9223372036854775808 = e * 4503599627370496 + (4503599627370496 + m) := by omega
 have h2 : ((b * 9223372036854775808 + (e * 4503599627370496 + (4503599627370496 + m))) / 9223372036854775808 % 2 == 1) = s := by
  have : (b * 9223372036854775808 + (e * 4503599627370496 + (4503599627370496 + m))) / 9223372036854775808 % 2 = b := by omega
  rw [this, Bool.eq_iff_iff, beq_iff_eq]; exact hb1.2
 rw [h1, h2, if_neg (by omega), if_pos (by omega)]
 obtain ⟨h3, h4⟩ := rung_mod (e := e) hm
 rw [h3, h4]
theorem read_zero (s : Bool) : Ieee.double.read (Ieee.double.word s 0) = .number s 0 (-1074) := by
 cases s <;> decide +kernel
theorem nearest_read (s : Bool) (v k : Nat) (hv : v < 9007199254740992) : ∃ j : Nat, Ieee.double.read (Ieee.double.nearest s (v * 2 ^ k) (-(k : Int))) = .number s (v * 2 ^ j) (-(j : Int)) := by
 by_cases h0 : v = 0
 · subst h0
   obtain ⟨j, hj⟩ : ∃ j : Nat, -(j : Int) = -1074 := ⟨1074, rfl⟩
   refine ⟨j, ?_⟩
   rw [Nat.zero_mul, Nat.zero_mul, hj]
   exact read_zero s
 · have hL : v.log2 < 53 := (Nat.log2_lt h0).2 hv
   obtain ⟨d, hd⟩ : ∃ d, d = 52 - v.log2 := ⟨_, rfl⟩
   have hp : 0 < 2 ^ k := Nat.two_pow_pos k
   have hne : v * 2 ^ k ≠ 0 := Nat.mul_ne_zero h0 (Nat.ne_of_gt hp)
   have hlo : 4503599627370496 ≤ v * 2 ^ d := by
    have h1 : 2 ^ v.log2 * 2 ^ d ≤ v * 2 ^ d := Nat.mul_le_mul_right _ (Nat.log2_self_le h0)
    rw [← Nat.pow_add, show v.log2 + d = 52 by omega] at h1; exact h1
   have hhi : v * 2 ^ d < 9007199254740992 := by
    have h1 : v * 2 ^ d < 2 ^ (v.log2 + 1) * 2 ^ d := Nat.mul_lt_mul_of_pos_right Nat.lt_log2_self (Nat.two_pow_pos d)
    rw [← Nat.pow_add, show v.log2 + 1 + d = 53 by omega] at h1; exact h1
   refine ⟨d, ?_⟩
   have hlast : max (-(k : Int) + ((v * 2 ^ k).log2 : Nat) - (Ieee.double.fractionBits : Nat)) Ieee.double.leastPlace = -(d : Int) := by
    rw [log2_shift h0, dfb, dlp]; omega
   have hk : Toward.even.cut s ((v * 2 ^ k) <<< (-(k : Int) - -(d : Int)).toNat) (-(d : Int) - -(k : Int)).toNat = v * 2 ^ d := by
    rcases Nat.le_total k d with h | h
    · rw [show (-(d : Int) - -(k : Int)).toNat = 0 by omega, show (-(k : Int) - -(d : Int)).toNat = d - k by omega, Nat.shiftLeft_eq, Nat.mul_assoc, ← Nat.pow_add, show k + (d - k) = d by omega]
      have := cut_whole .even s (v * 2 ^ d) 0
      rwa [Nat.pow_zero, Nat.mul_one] at this
    · rw [show (-(d : Int) - -(k : Int)).toNat = k - d by omega, show (-(k : Int) - -(d : Int)).toNat = 0 by omega, Nat.shiftLeft_zero]
      have := cut_whole .even s (v * 2 ^ d) (k - d)
      rwa [Nat.mul_assoc, ← Nat.pow_add, show d + (k - d) = k by omega] at this
   unfold Format.nearest
   simp only [if_neg hne]
   rw [hlast, hk, dlp, dbi, din]
   obtain ⟨m, hm⟩ : ∃ m, v * 2 ^ d = 4503599627370496 + m := ⟨v * 2 ^ d - 4503599627370496, by omega⟩
   rw [hm, show (-(d : Int) - -1074).toNat = 1074 - d by omega, Nat.min_eq_left (by omega), read_word s (1074 - d) m (by omega) (by omega)]
   have : -1074 + ((1074 - d : Nat) : Int) = -(d : Int) := by omega
   rw [this]
theorem DIs.write {d : Datum} {n : Int} (h : DIs d n) (hn : n.natAbs < 9007199254740992) : DIs (Ieee.double.read (Ieee.double.write d)) n := by
 obtain ⟨s, v, k, rfl, rfl⟩ := h
 obtain ⟨j, hj⟩ := nearest_read s v k (by cases s <;> simpa using hn)
 exact ⟨s, v, j, hj, rfl⟩
theorem signed_whole (s : Bool) (v i k : Nat) (h : i ≤ k) : signed s (v * 2 ^ i) (k - i) = (if s then -(v : Int) else v) * ((2 ^ k : Nat) : Int) := by
 unfold signed
 rw [Nat.shiftLeft_eq, Nat.mul_assoc, ← Nat.pow_add, show i + (k - i) = k by omega]
 cases s <;> simp [Int.neg_mul]
theorem DIs.opposite {d : Datum} {n : Int} (h : DIs d n) : DIs d.opposite (-n) := by
 obtain ⟨s, v, k, rfl, rfl⟩ := h
 refine ⟨!s, v, k, rfl, ?_⟩
 cases s <;> simp
theorem DIs.sum {d e : Datum} {n m : Int} (h : DIs d n) (g : DIs e m) : ∃ x, d.sum e = some x ∧ DIs x (n + m) := by
 obtain ⟨s, v, i, rfl, hn⟩ := h
 obtain ⟨t, u, j, rfl, hm⟩ := g
 obtain ⟨k, hk⟩ : ∃ k, k = max i j := ⟨_, rfl⟩
 have hb : min (-(i : Int)) (-(j : Int)) = -(k : Int) := by omega
 have h1 : (-(i : Int) - -(k : Int)).toNat = k - i := by omega
 have h2 : (-(j : Int) - -(k : Int)).toNat = k - j := by omega
 have hp : (0 : Int) < ((2 ^ k : Nat) : Int) := by have := Nat.two_pow_pos k; omega
 have ht : signed s (v * 2 ^ i) (k - i) + signed t (u * 2 ^ j) (k - j) = (n + m) * ((2 ^ k : Nat) : Int) := by
  rw [signed_whole s v i k (by omega), signed_whole t u j k (by omega), ← hn, ← hm, Int.add_mul]
 refine ⟨_, rfl, ?_⟩
 simp only [hb, h1, h2, ht]
 refine ⟨if (n + m) * ((2 ^ k : Nat) : Int) = 0 then s && t else decide ((n + m) * ((2 ^ k : Nat) : Int) < 0), (n + m).natAbs, k, ?_, ?_⟩
 · rw [Int.natAbs_mul, Int.natAbs_natCast]
 · by_cases h0 : n + m = 0
   · rw [h0]; simp
   · have hne : (n + m) * ((2 ^ k : Nat) : Int) ≠ 0 := Int.mul_ne_zero h0 (by omega)
     rw [if_neg hne]
     by_cases hl : n + m < 0
     · have : (n + m) * ((2 ^ k : Nat) : Int) < 0 := Int.mul_neg_of_neg_of_pos hl hp
       rw [if_pos (by simpa using this)]; omega
     · have : ¬ (n + m) * ((2 ^ k : Nat) : Int) < 0 := Int.not_lt.2 (Int.mul_nonneg (by omega) (by omega))
       rw [if_neg (by simpa using this)]; omega
theorem DIs.product {d e : Datum} {n m : Int} (h : DIs d n) (g : DIs e m) : ∃ x, d.product e = some x ∧ DIs x (n * m) := by
 obtain ⟨s, v, i, rfl, rfl⟩ := h
 obtain ⟨t, u, j, rfl, rfl⟩ := g
 refine ⟨_, rfl, s ^^ t, v * u, i + j, ?_, ?_⟩
 · congr 1
   · rw [Nat.pow_add]; exact Nat.mul_mul_mul_comm ..
   · omega
 · cases s <;> cases t <;> simp [Int.neg_mul, Int.mul_neg]
theorem DIs.toInt {d : Datum} {n : Int} (h : DIs d n) : d.toInt .zero = some n := by
 obtain ⟨s, v, k, rfl, rfl⟩ := h
 have e : Toward.zero.cut s ((v * 2 ^ k) <<< (-(k : Int)).toNat) (- -(k : Int)).toNat = v := by
  rw [show (-(k : Int)).toNat = 0 by omega, show (- -(k : Int)).toNat = k by omega, Nat.shiftLeft_zero]
  exact cut_whole .zero s v k
 unfold Datum.toInt Datum.integral
 simp only [e]
 unfold signed
 rw [Nat.shiftLeft_zero]
def Is (b : Nat) (n : Int) : Prop := DIs (Ieee.double.read b) n
theorem Is.ofInt {n : Int} (h : n.natAbs < 9007199254740992) : Is (floatOfInt .f64 n) n := by
 refine DIs.write (d := .number (n < 0) n.natAbs 0) ⟨decide (n < 0), n.natAbs, 0, by simp, ?_⟩ h
 by_cases h0 : n < 0
 · rw [if_pos (by simpa using h0)]; omega
 · rw [if_neg (by simpa using h0)]; omega
theorem Is.zero : Is 0 0 := by
 show DIs (Ieee.double.read 0) 0
 obtain ⟨j, hj⟩ : ∃ j : Nat, -(j : Int) = -1074 := ⟨1074, rfl⟩
 have : Ieee.double.read 0 = .number false (0 * 2 ^ j) (-(j : Int)) := by rw [Nat.zero_mul, hj]; decide +kernel
 rw [this]; exact DIs.num false 0 j
theorem Is.one : Is 4607182418800017408 1 := by
 show DIs (Ieee.double.read 4607182418800017408) 1
 have : Ieee.double.read 4607182418800017408 = .number false (1 * 2 ^ 52) (-((52 : Nat) : Int)) := by decide +kernel
 rw [this]; exact DIs.num false 1 52
theorem Is.toInt {b : Nat} {n : Int} (h : Is b n) (lo : -9007199254740992 < n) (hi : n < 9007199254740992) : floatToIntVal .f64 b .i64 = some n := by
 have e : (FloatKind.f64.decode b).toInt .zero = some n := DIs.toInt h
 unfold floatToIntVal
 rw [e]
 have h1 : IntKind.i64.min ≤ n := by show (-9223372036854775808 : Int) ≤ n; omega
 have h2 : n ≤ IntKind.i64.max := by show n ≤ (9223372036854775807 : Int); omega
 simp only [h1, h2, and_self, if_true]
theorem Is.add {x y : Nat} {n m : Int} (h : Is x n) (g : Is y m) (hb : (n + m).natAbs < 9007199254740992) : ∃ r, floatBits .add .f64 x y = some r ∧ Is r (n + m) := by
 obtain ⟨d, hd, hi⟩ := DIs.sum h g
 refine ⟨Ieee.double.write d, ?_, hi.write hb⟩
 show ((Ieee.double.read x).sum (Ieee.double.read y)).map Ieee.double.write = _
 rw [hd]; rfl
theorem Is.sub {x y : Nat} {n m : Int} (h : Is x n) (g : Is y m) (hb : (n - m).natAbs < 9007199254740992) : ∃ r, floatBits .sub .f64 x y = some r ∧ Is r (n - m) := by
 obtain ⟨d, hd, hi⟩ := DIs.sum h (DIs.opposite g)
 rw [← Int.sub_eq_add_neg] at hi
 refine ⟨Ieee.double.write d, ?_, hi.write hb⟩
 show ((Ieee.double.read x).sum (Ieee.double.read y).opposite).map Ieee.double.write = _
 rw [hd]; rfl
theorem Is.mul {x y : Nat} {n m : Int} (h : Is x n) (g : Is y m) (hb : (n * m).natAbs < 9007199254740992) : ∃ r, floatBits .mul .f64 x y = some r ∧ Is r (n * m) := by
 obtain ⟨d, hd, hi⟩ := DIs.product h g
 refine ⟨Ieee.double.write d, ?_, hi.write hb⟩
 show ((Ieee.double.read x).product (Ieee.double.read y)).map Ieee.double.write = _
 rw [hd]; rfl
theorem cmul {a b c d : Nat} {x y u v : Int} (ha : Is a x) (hb : Is b y) (hc : Is c u) (hd : Is d v) (h1 : (x * u).natAbs < 4503599627370496) (h2 : (y * v).natAbs < 4503599627370496)
 (h3 : (x * v).natAbs < 4503599627370496) (h4 : (y * u).natAbs < 4503599627370496) : ∃ re im, cMulBits a b c d = some (re, im) ∧ Is re (x * u - y * v) ∧ Is im (x * v + y * u) := by
 obtain ⟨r1, e1, i1⟩ := ha.mul hc (by omega)
 obtain ⟨r2, e2, i2⟩ := hb.mul hd (by omega)
 obtain ⟨r3, e3, i3⟩ := i1.sub i2 (by omega)
 obtain ⟨r4, e4, i4⟩ := ha.mul hd (by omega)
 obtain ⟨r5, e5, i5⟩ := hb.mul hc (by omega)
 obtain ⟨r6, e6, i6⟩ := i4.add i5 (by omega)
 refine ⟨r3, r6, ?_, i3, i6⟩
 unfold cMulBits
 simp only [e1, e2, e3, e4, e5, e6, Option.bind_some]
theorem csub {a b c d : Nat} {x y u v : Int} (ha : Is a x) (hb : Is b y) (hc : Is c u) (hd : Is d v) (h1 : (x - u).natAbs < 9007199254740992) (h2 : (y - v).natAbs < 9007199254740992) :
 ∃ re im, cSumBits .sub .f64 a b c d = some (re, im) ∧ Is re (x - u) ∧ Is im (y - v) := by
 obtain ⟨r1, e1, i1⟩ := ha.sub hc h1
 obtain ⟨r2, e2, i2⟩ := hb.sub hd h2
 refine ⟨r1, r2, ?_, i1, i2⟩
 unfold cSumBits
 simp only [e1, e2, Option.bind_some]
end Go.Proofs.YtimllihegnokeaaGreatDoor.Ov
namespace Go.Proofs.YtimllihegnokeaaGreatDoor.Ga
open Go.ChangeShapes Go.WideShapes Go.ChangeAt Go.RowKit Ov
theorem complex_any (x y : Int) (w : World) : Calls Tryz.prog 189 #[.agg #[.int .i64 x, .int .i64 y]] w fun e w' => e = .returned (.complex .f64 (floatOfInt .f64 x) (floatOfInt .f64 y)) ∧ Below w.heap.size w w' := by
 go_enter Tryz.func189, Tryz.ntmps189
 go_wp2_with (fail)
 go_ret
 exact ⟨rfl, (Below.refl _ _).alloc (Nat.le_refl _) _⟩
theorem spot_any {re im : Nat} {x y : Int} (hx : Is re x) (hy : Is im y) (bx : -9007199254740992 < x ∧ x < 9007199254740992) (by_ : -9007199254740992 < y ∧ y < 9007199254740992) (w : World) :
 Calls Tryz.prog 188 #[.complex .f64 re im] w fun e w' => e = .returned (.agg #[.int .i64 x, .int .i64 y]) ∧ Below w.heap.size w w' := by
 have r1 : ∀ w : World, (convert 243 3 (.float .f64 re)).run Tryz.prog w = .ok (.int .i64 x) w := fun w => run_convert_float_int w 243 3 .f64 .i64 re x (by rw [Tryz.underlying243]; rfl) Tryz.underlying3 (hx.toInt bx.1 bx.2)
 have r2 : ∀ w : World, (convert 243 3 (.float .f64 im)).run Tryz.prog w = .ok (.int .i64 y) w := fun w => run_convert_float_int w 243 3 .f64 .i64 im y (by rw [Tryz.underlying243]; rfl) Tryz.underlying3 (hy.toInt by_.1 by_.2)
 clear hx hy bx by_
 go_enter Tryz.func188, Tryz.ntmps188
 go_wp2_with (fail)
 refine bodyPost_ret (v := .agg #[.int .i64 x, .int .i64 y]) (by simp [results, Tryz.results188, go_sem]) rfl ⟨rfl, ?_⟩
 exact (Below.refl _ _).alloc (Nat.le_refl _) _
theorem mirror_any {x y : Int} (by_ : -16777216 ≤ y ∧ y ≤ 16777216) (w : World) : Calls Tryz.prog 190 #[.agg #[.int .i64 x, .int .i64 y]] w fun e w' => e = .returned (.agg #[.int .i64 x, .int .i64 (-y)]) ∧ Below w.heap.size w w' := by
 obtain ⟨h1, h2⟩ := by_
 go_enter Tryz.func190, Tryz.ntmps190
 go_wp2_with (fail)
 refine bodyPost_ret (v := .agg #[.int .i64 x, .int .i64 (-y)]) (by simp [results, Tryz.results190, go_sem]) rfl ⟨rfl, ?_⟩
 exact ((Below.refl _ _).alloc (Nat.le_refl _) _).alloc (by simp) _
theorem norm_any {x y : Int} (bx : -16777216 ≤ x ∧ x ≤ 16777216) (by_ : -16777216 ≤ y ∧ y ≤ 16777216) (w : World) : Calls Tryz.prog 191 #[.agg #[.int .i64 x, .int .i64 y]] w fun e w' => e = .returned (.int .i64 (x * x + y * y)) ∧ Below w.heap.size w w' := by
 obtain ⟨h1, h2⟩ := mul_big bx bx
 obtain ⟨h3, h4⟩ := mul_big by_ by_
 clear bx by_
 go_enter Tryz.func191, Tryz.ntmps191
 go_wp2_with (fail)
 go_ret
 exact ⟨rfl, (Below.refl _ _).alloc (Nat.le_refl _) _⟩
def ans (ok : Bool) (p : Pt) : Value := if ok then .tuple #[.agg #[.int .i64 p.x, .int .i64 p.y], .int .i64 0] else .tuple #[.agg #[.int .i64 0, .int .i64 0], .int .i64 14]
theorem natAbs_big {n : Int} (h : -281474976710656 ≤ n ∧ n ≤ 281474976710656) : n.natAbs < 4503599627370496 := by omega
theorem run_cmul {x y u v : Int} (hx : -16777216 ≤ x ∧ x ≤ 16777216) (hy : -16777216 ≤ y ∧ y ≤ 16777216) (hu : -16777216 ≤ u ∧ u ≤ 16777216) (hv : -16777216 ≤ v ∧ v ≤ 16777216) :
 ∃ re im, (∀ w : World, (binOp .mul 211 (.complex .f64 (floatOfInt .f64 x) (floatOfInt .f64 y)) (.complex .f64 (floatOfInt .f64 u) (floatOfInt .f64 v))).run Tryz.prog w = .ok (.complex .f64 re im) w) ∧
  Is re (x * u - y * v) ∧ Is im (x * v + y * u) := by
 obtain ⟨re, im, h, h1, h2⟩ := cmul (Is.ofInt (n := x) (by omega)) (Is.ofInt (n := y) (by omega)) (Is.ofInt (n := u) (by omega)) (Is.ofInt (n := v) (by omega))
  (natAbs_big (mul_big hx hu)) (natAbs_big (mul_big hy hv)) (natAbs_big (mul_big hx hv)) (natAbs_big (mul_big hy hu))
 exact ⟨re, im, fun w => run_complex_mul w _ _ _ _ _ _ _ h, h1, h2⟩
theorem cut_cases (t d : Int) (hd : 0 < d) : (0 ≤ t.tmod d ∧ t.tdiv d = t / d ∧ t.tdiv d * d ≤ t) ∨ (t.tmod d < 0 ∧ t.tdiv d - 1 = t / d ∧ t < t.tdiv d * d) := by
 have h1 := Int.mul_tdiv_add_tmod t d
 have h2 := Int.tmod_lt_of_pos t hd
 have h3 : -d < t.tmod d := by
  have := Int.lt_tmod_of_pos t hd; omega
 generalize t.tdiv d = q at *
 generalize t.tmod d = r at *
 rw [Int.mul_comm] at h1
 by_cases hr : 0 ≤ r
 · refine .inl ⟨hr, ?_, by omega⟩
   rw [← h1, show q * d + r = r + q * d by omega, Int.add_mul_ediv_right _ _ (by omega), Int.ediv_eq_zero_of_lt hr h2]; omega
 · refine .inr ⟨by omega, ?_, by omega⟩
   rw [← h1, show q * d + r = (r + d) + (q - 1) * d by rw [Int.sub_mul]; omega, Int.add_mul_ediv_right _ _ (by omega), Int.ediv_eq_zero_of_lt (by omega) (by omega)]; omega
theorem tdiv_le (t d M : Int) (h1 : -M ≤ t) (h2 : t ≤ M) (hM : 0 ≤ M) : -M ≤ t.tdiv d ∧ t.tdiv d ≤ M := by
 have h : (t.tdiv d).natAbs ≤ t.natAbs := by rw [Int.natAbs_tdiv]; exact Nat.div_le_self _ _
 omega
set_option maxHeartbeats 1000000 in
theorem nearest_any {n d : Int} (h1 : -1125899906842624 ≤ n) (h2 : n ≤ 1125899906842624) (h3 : 0 < d) (h4 : d ≤ 1125899906842624) (w : World) :
 Calls Tryz.prog 192 #[.int .i64 n, .int .i64 d] w fun e w' => e = .returned (.int .i64 (near n d)) ∧ w = w' := by
 obtain ⟨t1, t2⟩ := tdiv_le (2 * n + d) (2 * d) 4503599627370496 (by omega) (by omega) (by omega)
 have hn : near n d = (2 * n + d) / (2 * d) := rfl
 rcases cut_cases (2 * n + d) (2 * d) (by omega) with ⟨c1, c2, _⟩ | ⟨c1, c2, _⟩
 · have HE := Lib.hid (hn.trans c2.symm); clear hn c2
   go_enter Tryz.func192, Tryz.ntmps192
   go_wp2_with (fail)
   go_ret
   exact ⟨ret_int (by rw [HE.out]), rfl⟩
 · have HE := Lib.hid (hn.trans c2.symm); clear hn c2
   go_enter Tryz.func192, Tryz.ntmps192
   go_wp2_with (fail)
   go_ret
   exact ⟨ret_int (by rw [HE.out]), rfl⟩
end Go.Proofs.YtimllihegnokeaaGreatDoor.Ga
namespace Go.Proofs.YtimllihegnokeaaGreatDoor.Ov
open Go.ChangeShapes Go.WideShapes Go.ChangeAt Go.RowKit Go.Shelf
def cloneRen : Ren := ⟨fun | 25 => 128 | n => n, fun | 0 => 0 | 3 => 3 | 4 => 4 | 5 => 5 | 9 => 9 | 37 => 59 | 47 => 117 | n => n, fun n => n⟩
theorem cloneLays : LaysPu.n25 Tryz.prog cloneRen :=
 { mixed := by kernel_rfl
   f25 := by kernel_rfl
   t0 := by kernel_rfl
   a0 := fun _ => by kernel_rfl
   z0 := fun _ => by kernel_rfl
   v0 := fun _ => by kernel_rfl
   i0 := by kernel_rfl
   t3 := by kernel_rfl
   a3 := fun _ => by kernel_rfl
   z3 := fun _ => by kernel_rfl
   v3 := fun _ => by kernel_rfl
   i3 := by kernel_rfl
   t4 := by kernel_rfl
   a4 := fun _ => by kernel_rfl
   z4 := fun _ => by kernel_rfl
   v4 := fun _ => by kernel_rfl
   i4 := by kernel_rfl
   t5 := by kernel_rfl
   a5 := fun _ => by kernel_rfl
   z5 := fun _ => by kernel_rfl
   v5 := fun _ => by kernel_rfl
   i5 := by kernel_rfl
   t9 := by kernel_rfl
   a9 := fun _ => by kernel_rfl
   z9 := fun _ => by kernel_rfl
   v9 := fun _ => by kernel_rfl
   i9 := by kernel_rfl
   t37 := by kernel_rfl
   a37 := fun _ => by kernel_rfl
   z37 := fun _ => by kernel_rfl
   v37 := fun _ => by kernel_rfl
   i37 := by kernel_rfl
   t47 := by kernel_rfl
   a47 := fun _ => by kernel_rfl
   z47 := fun _ => by kernel_rfl
   v47 := fun _ => by kernel_rfl
   i47 := by kernel_rfl }
theorem sclone_any (s : ByteArray) (w : World) (hs : s.size ≤ 281474976710656) :
 Calls Tryz.prog 128 #[.string s] w fun e w' => e = .returned (.string s) ∧ Below w.heap.size w w' := AnyPu.stringslite_Clone cloneLays s w hs
set_option maxHeartbeats 400000 in
theorem clone_any (s : ByteArray) (w : World) (hs : s.size ≤ 281474976710656) :
 Calls Tryz.prog 88 #[.string s] w fun e w' => e = .returned (.string s) ∧ Below w.heap.size w w' := by
 go_enter Tryz.func88, Tryz.ntmps88
 go_wp2_with fail
 refine (sclone_any s _ hs).mono ?_
 rintro e w1 ⟨rfl, hb⟩
 have HB := Lib.hid hb; clear hb
 go_wp2_with fail
 go_ret
 exact ⟨rfl, HB.out⟩
def Bld (B b : Nat) (l : List UInt8) (w : World) : Prop := Lib.IsBuilder 61 5 B b (Lib.byteCells l) w
def bwsRen : Ren := ⟨fun | 166 => 24 | 240 => 64 | 276 => 105 | n => n, fun | 0 => 0 | 3 => 3 | 4 => 4 | 5 => 5 | 9 => 9 | 20 => 20 | 37 => 59 | 70 => 58 | 72 => 61 | 75 => 64 | 80 => 78 | 164 => 166 | n => n, fun n => n⟩
theorem bwsLays : Lays.n166 Tryz.prog bwsRen :=
 { mixed := by kernel_rfl
   f166 := by kernel_rfl
   f240 := by kernel_rfl
   f276 := by kernel_rfl
   t0 := by kernel_rfl
   a0 := fun _ => by kernel_rfl
   z0 := fun _ => by kernel_rfl
   v0 := fun _ => by kernel_rfl
   t3 := by kernel_rfl
   a3 := fun _ => by kernel_rfl
   z3 := fun _ => by kernel_rfl
   v3 := fun _ => by kernel_rfl
   t4 := by kernel_rfl
   a4 := fun _ => by kernel_rfl
   z4 := fun _ => by kernel_rfl
   v4 := fun _ => by kernel_rfl
   t9 := by kernel_rfl
   a9 := fun _ => by kernel_rfl
   z9 := fun _ => by kernel_rfl
   v9 := fun _ => by kernel_rfl
   t20 := by kernel_rfl
   a20 := fun _ => by kernel_rfl
   z20 := fun _ => by kernel_rfl
   v20 := fun _ => by kernel_rfl
   t37 := by kernel_rfl
   a37 := fun _ => by kernel_rfl
   z37 := fun _ => by kernel_rfl
   v37 := fun _ => by kernel_rfl
   t70 := by kernel_rfl
   a70 := fun _ => by kernel_rfl
   z70 := fun _ => by kernel_rfl
   v70 := fun _ => by kernel_rfl
   t72 := by kernel_rfl
   a72 := fun _ => by kernel_rfl
   z72 := fun _ => by kernel_rfl
   v72 := fun _ => by kernel_rfl
   t75 := by kernel_rfl
   a75 := fun _ => by kernel_rfl
   z75 := fun _ => by kernel_rfl
   v75 := fun _ => by kernel_rfl
   t164 := by kernel_rfl
   a164 := fun _ => by kernel_rfl
   z164 := fun _ => by kernel_rfl
   v164 := fun _ => by kernel_rfl }
theorem bwsExtra : Builder.Extra Tryz.prog bwsRen :=
 { sizeBuilder := by kernel_rfl
   liesBuilder := by kernel_rfl
   t5 := by kernel_rfl
   a5 := fun _ => by kernel_rfl
   z5 := fun _ => by kernel_rfl
   v5 := fun _ => by kernel_rfl
   infoByte := by kernel_rfl
   cellsByte := by kernel_rfl
   sizeByte := by kernel_rfl
   neB5 := by decide }
def bwbRen : Ren := ⟨fun | 167 => 109 | 240 => 64 | 276 => 105 | n => n, fun | 0 => 0 | 4 => 4 | 5 => 5 | 9 => 9 | 20 => 20 | 37 => 59 | 70 => 58 | 72 => 61 | 75 => 64 | 80 => 78 | 164 => 166 | n => n, fun n => n⟩
theorem bwbLays : Lays.n167 Tryz.prog bwbRen :=
 { mixed := by kernel_rfl
   f167 := by kernel_rfl
   f240 := by kernel_rfl
   f276 := by kernel_rfl
   t0 := by kernel_rfl
   a0 := fun _ => by kernel_rfl
   z0 := fun _ => by kernel_rfl
   v0 := fun _ => by kernel_rfl
   t4 := by kernel_rfl
   a4 := fun _ => by kernel_rfl
   z4 := fun _ => by kernel_rfl
   v4 := fun _ => by kernel_rfl
   t5 := by kernel_rfl
   a5 := fun _ => by kernel_rfl
   z5 := fun _ => by kernel_rfl
   v5 := fun _ => by kernel_rfl
   t9 := by kernel_rfl
   a9 := fun _ => by kernel_rfl
   z9 := fun _ => by kernel_rfl
   v9 := fun _ => by kernel_rfl
   t20 := by kernel_rfl
   a20 := fun _ => by kernel_rfl
   z20 := fun _ => by kernel_rfl
   v20 := fun _ => by kernel_rfl
   t37 := by kernel_rfl
   a37 := fun _ => by kernel_rfl
   z37 := fun _ => by kernel_rfl
   v37 := fun _ => by kernel_rfl
   t70 := by kernel_rfl
   a70 := fun _ => by kernel_rfl
   z70 := fun _ => by kernel_rfl
   v70 := fun _ => by kernel_rfl
   t72 := by kernel_rfl
   a72 := fun _ => by kernel_rfl
   z72 := fun _ => by kernel_rfl
   v72 := fun _ => by kernel_rfl
   t75 := by kernel_rfl
   a75 := fun _ => by kernel_rfl
   z75 := fun _ => by kernel_rfl
   v75 := fun _ => by kernel_rfl
   t164 := by kernel_rfl
   a164 := fun _ => by kernel_rfl
   z164 := fun _ => by kernel_rfl
   v164 := fun _ => by kernel_rfl }
theorem bwbExtra : Builder.Extra Tryz.prog bwbRen :=
 { sizeBuilder := by kernel_rfl
   liesBuilder := by kernel_rfl
   t5 := by kernel_rfl
   a5 := fun _ => by kernel_rfl
   z5 := fun _ => by kernel_rfl
   v5 := fun _ => by kernel_rfl
   infoByte := by kernel_rfl
   cellsByte := by kernel_rfl
   sizeByte := by kernel_rfl
   neB5 := by decide }
theorem byte_any (B b : Nat) (l : List UInt8) (c : UInt8) (w : World) (h : Bld B b l w) (hlen : l.length + 1 ≤ 140737488355328) (hB : B ≤ w.heap.size) :
 Calls Tryz.prog 109 #[.pointer (some ⟨b, 0, none⟩), .int .u8 (c.toNat : Int)] w fun e w' => e = .returned .nilIface ∧ Bld B b (l ++ [c]) w' ∧ Below B w w' :=
 (Any.Builder_WriteByte bwbLays bwbExtra B b (Lib.byteCells l) (c.toNat : Int) w h (by rw [Lib.byteCells_length]; exact hlen) hB).mono fun _ w' ⟨he, h1, hb⟩ =>
   ⟨he, by
    have e : Lib.byteCells (l ++ [c]) = Lib.byteCells l ++ [.int .u8 (c.toNat : Int)] := by simp [Lib.byteCells]
    rw [← e] at h1
    exact Or.inr h1, hb⟩
def bstRen : Ren := ⟨fun | 169 => 32 | n => n, fun | 0 => 0 | 3 => 3 | 5 => 5 | 9 => 9 | 37 => 59 | 70 => 58 | 72 => 61 | 127 => 117 | n => n, fun n => n⟩
theorem bstLays : Lays.n169 Tryz.prog bstRen :=
 { mixed := by kernel_rfl
   f169 := by kernel_rfl
   t0 := by kernel_rfl
   a0 := fun _ => by kernel_rfl
   z0 := fun _ => by kernel_rfl
   v0 := fun _ => by kernel_rfl
   t3 := by kernel_rfl
   a3 := fun _ => by kernel_rfl
   z3 := fun _ => by kernel_rfl
   v3 := fun _ => by kernel_rfl
   t9 := by kernel_rfl
   a9 := fun _ => by kernel_rfl
   z9 := fun _ => by kernel_rfl
   v9 := fun _ => by kernel_rfl
   t37 := by kernel_rfl
   a37 := fun _ => by kernel_rfl
   z37 := fun _ => by kernel_rfl
   v37 := fun _ => by kernel_rfl
   t70 := by kernel_rfl
   a70 := fun _ => by kernel_rfl
   z70 := fun _ => by kernel_rfl
   v70 := fun _ => by kernel_rfl
   t72 := by kernel_rfl
   a72 := fun _ => by kernel_rfl
   z72 := fun _ => by kernel_rfl
   v72 := fun _ => by kernel_rfl
   t127 := by kernel_rfl
   a127 := fun _ => by kernel_rfl
   z127 := fun _ => by kernel_rfl
   v127 := fun _ => by kernel_rfl }
theorem bstExtra : Builder.Extra Tryz.prog bstRen :=
 { sizeBuilder := by kernel_rfl
   liesBuilder := by kernel_rfl
   t5 := by kernel_rfl
   a5 := fun _ => by kernel_rfl
   z5 := fun _ => by kernel_rfl
   v5 := fun _ => by kernel_rfl
   infoByte := by kernel_rfl
   cellsByte := by kernel_rfl
   sizeByte := by kernel_rfl
   neB5 := by decide }
theorem string_any (B b : Nat) (l : List UInt8) (w : World) (h : Bld B b l w) (hB : B ≤ w.heap.size) :
 Calls Tryz.prog 32 #[.pointer (some ⟨b, 0, none⟩)] w fun e w' => e = .returned (.string (tx l)) ∧ Below B w w' :=
 Any.Builder_String_any bstLays bstExtra B b l w h hB
end Go.Proofs.YtimllihegnokeaaGreatDoor.Ov
namespace Go.Proofs.YtimllihegnokeaaGreatDoor.Ov
open Go.ChangeShapes Go.WideShapes Go.ChangeAt Go.RowKit
theorem Bld.fresh (w : World) : Bld w.heap.size w.heap.size [] (w.alloc (.cells #[.pointer none, .slice none 0 0] 61)) := Lib.fresh_isBuilder _ _ w
theorem Bld.cast {B b : Nat} {l l' : List UInt8} {w : World} (h : Bld B b l w) (e : l = l') : Bld B b l' w := e ▸ h
end Go.Proofs.YtimllihegnokeaaGreatDoor.Ov
namespace Go.Proofs.YtimllihegnokeaaGreatDoor.Va
open Go.ChangeShapes Go.WideShapes Go.ChangeAt Go.RowKit Ov
def six : ByteArray := ⟨#[48, 49, 50, 51, 52, 53, 54, 55, 56, 57, 97, 98, 99, 100, 101, 102]⟩
theorem six_at : ∀ i : Fin 16, six.data[i.val]? = some (hx i.val) := by decide
theorem run_six {z : Int} (n : Nat) (h : n < 16) (hz : z = (n : Int)) (w : World) : (Instr.index 9 (.string ⟨#[48, 49, 50, 51, 52, 53, 54, 55, 56, 57, 97, 98, 99, 100, 101, 102]⟩) (.int .u8 z)).run Tryz.prog w = .ok (.int .u8 ((hx n).toNat : Int)) w := by
 subst hz
 have hs : (n : Int) < ((six.size : Nat) : Int) := by show (n : Int) < 16; omega
 refine (run_index_string w 9 six .u8 (n : Int) Tryz.underlying9).trans ?_
 rw [dif_pos ⟨by omega, hs⟩]
 have e : six[((n : Int)).toNat]'(by omega) = hx n := by
  have := six_at ⟨n, h⟩
  rw [Array.getElem?_eq_some_iff] at this
  obtain ⟨hlt, he⟩ := this
  rw [← he]
  simp only [Int.toNat_natCast]
  rfl
 rw [e]
theorem esc_take (s : ByteArray) (k : Nat) (h : k < s.size) : esc (s.data.toList.take (k + 1)) = esc (s.data.toList.take k) ++ e1 s[k] := by
 rw [take_snoc s k h, esc_append]; unfold esc; simp
set_option maxRecDepth 100000 in
set_option maxHeartbeats 1000000 in
theorem writeText_any (s : ByteArray) (w : World) (hs : s.size ≤ 4096) :
 Calls Tryz.prog 173 #[.string s] w (Gives (.string (tx (34 :: (esc s.data.toList ++ [34])))) w) := by
 go_enter Tryz.func173, Tryz.ntmps173
 go_wp2_with (fail)
 have D0 := Lib.hid (Bld.fresh w)
 have HB0 := Lib.hid (box1 w (.cells #[.pointer none, .slice none 0 0] 61))
 generalize w.alloc (.cells #[.pointer none, .slice none 0 0] 61) = w0 at *
 refine (byte_any w.heap.size w.heap.size [] 34 _ D0.out (by simp) HB0.out.size).mono ?_
 rintro e w1 ⟨rfl, hd, hb⟩
 have D1 := Lib.hid hd
 have HB1 := Lib.hid (HB0.out.trans hb)
 clear hd hb D0 HB0
 go_wp2_with (fail)
 go_loopw [8] (fun i wr => ∃ k : Nat, k ≤ s.size ∧ i = .int .i64 (k : Int) ∧ Bld w.heap.size w.heap.size (34 :: esc (s.data.toList.take k)) wr ∧ Below w.heap.size w wr) (fun i _ => s.size - (intOf i).toNat)
 case atStart => exact ⟨0, Nat.zero_le _, rfl, D1.out, HB1.out⟩
 case round =>
  obtain ⟨k, hk, rfl, hd, hb⟩ := hrel
  have D1 := Lib.hid hd; have HB1 := Lib.hid hb; clear hd hb
  have hlen : (esc (s.data.toList.take k)).length ≤ 12288 := by
   have h1 := esc_le (s.data.toList.take k)
   have h2 : (s.data.toList.take k).length ≤ k := List.length_take_le _ _
   omega
  by_cases hlt : k < s.size
  · have HS := Lib.hid (esc_take s k hlt)
    obtain ⟨c, hc⟩ : ∃ c : UInt8, s[k] = c := ⟨_, rfl⟩
    rw [hc] at HS
    have HP := Lib.hid (plain_any c)
    have hcl := c.toNat_lt
    by_cases hp : pl c = true
    · have HE : Hid (e1 c = [c]) := if_pos hp
      rw [hp] at HP; clear hp
      generalize esc (s.data.toList.take k) = l at *
      go_wp2_with (fail)
      refine (HP.out _).mono ?_
      rintro e w' ⟨rfl, rfl⟩
      go_wp2_with (fail)
      refine (byte_any w.heap.size w.heap.size _ c _ D1.out (by simp; omega) HB1.out.size).mono ?_
      rintro e w2 ⟨rfl, hd, hb⟩
      have D2 := Lib.hid hd
      have HB2 := Lib.hid (HB1.out.trans hb)
      clear hd hb D1 HB1
      go_wp2_with (fail)
      go_roundw
      case rel => exact ⟨k + 1, by omega, by go_num, D2.out.cast (by rw [HS.out, HE.out]; rfl), HB2.out⟩
      case measure => simp [intOf]; omega
    · have hp' : pl c = false := by simpa using hp
      have HE : Hid (e1 c = [92, hx (c.toNat / 16), hx (c.toNat % 16)]) := if_neg hp
      rw [hp'] at HP; clear hp hp'
      have hx1 := run_six (z := (c.toNat : Int) / 16) (c.toNat / 16) (by omega) (by omega)
      have hx2 := run_six (z := (c.toNat : Int) % 16) (c.toNat % 16) (by omega) (by omega)
      generalize esc (s.data.toList.take k) = l at *
      go_wp2_with (fail)
      refine (HP.out _).mono ?_
      rintro e w' ⟨rfl, rfl⟩
      go_wp2_with (fail)
      refine (byte_any w.heap.size w.heap.size _ 92 _ D1.out (by simp; omega) HB1.out.size).mono ?_
      rintro e w2 ⟨rfl, hd, hb⟩
      have D2 := Lib.hid hd
      have HB2 := Lib.hid (HB1.out.trans hb)
      clear hd hb D1 HB1
      go_wp2_with (fail)
      refine (byte_any w.heap.size w.heap.size _ (hx (c.toNat / 16)) _ D2.out (by simp; omega) HB2.out.size).mono ?_
      rintro e w3 ⟨rfl, hd, hb⟩
      have D3 := Lib.hid hd
      have HB3 := Lib.hid (HB2.out.trans hb)
      clear hd hb D2 HB2
      go_wp2_with (fail)
      refine (byte_any w.heap.size w.heap.size _ (hx (c.toNat % 16)) _ D3.out (by simp; omega) HB3.out.size).mono ?_
      rintro e w4 ⟨rfl, hd, hb⟩
      have D4 := Lib.hid hd
      have HB4 := Lib.hid (HB3.out.trans hb)
      clear hd hb D3 HB3
      go_wp2_with (fail)
      go_roundw
      case rel => exact ⟨k + 1, by omega, by go_num, D4.out.cast (by rw [HS.out, HE.out]; simp), HB4.out⟩
      case measure => simp [intOf]; omega
  · have HT : Hid (s.data.toList.take k = s.data.toList) := List.take_of_length_le (by simp; omega)
    rw [HT.out] at D1 hlen
    generalize esc s.data.toList = l at *
    go_wp2_with (fail)
    refine (byte_any w.heap.size w.heap.size _ 34 _ D1.out (by simp; omega) HB1.out.size).mono ?_
    rintro e w2 ⟨rfl, hd, hb⟩
    have D2 := Lib.hid hd
    have HB2 := Lib.hid (HB1.out.trans hb)
    clear hd hb D1 HB1
    go_wp2_with (fail)
    refine (string_any _ _ _ _ D2.out HB2.out.size).mono ?_
    rintro e w3 ⟨rfl, hb⟩
    have HB3 := Lib.hid (HB2.out.trans hb)
    clear hb
    go_wp2_with (fail)
    go_ret
    exact ⟨rfl, HB3.out⟩
end Go.Proofs.YtimllihegnokeaaGreatDoor.Va
namespace Go.Proofs.YtimllihegnokeaaGreatDoor.Cr
def hv (n : Nat) : Nat := if n % 2 = 1 then (n / 2) ^^^ 3988292384 else n / 2
def hs : Nat → Nat → Nat | 0, n => n | k + 1, n => hs k (hv n)
def st (n : Nat) (b : UInt8) : Nat := hs 8 (n ^^^ b.toNat)
def run (n : Nat) (l : List UInt8) : Nat := l.foldl st n
end Go.Proofs.YtimllihegnokeaaGreatDoor.Cr
namespace Go.Proofs.YtimllihegnokeaaGreatDoor.Jo
open Go.ChangeShapes Go.WideShapes Go.ChangeAt Go.RowKit Go.Maps Ov
theorem lawB : Keyed Tryz.prog 4 := bool_keyed Tryz.underlying4
def ansR (v : Value) : Option (DataW Unit × List MemPlace) :=
 match v with
 | .agg a => match a.toList with
   | [.string s] => some (.lit (.string s.data.toList), [])
   | _ => none
 | _ => none
def yesL : List UInt8 := [121, 101, 115]
def noL : List UInt8 := [110, 111]
def ansD : DataW Unit := ((DataW.map []).put (.bool true) (.lit (.string yesL))).put (.bool false) (.lit (.string noL))
def Am (w : World) (b : Nat) : Prop := w.ownsMap Tryz.prog 4 ansR b 2 ansD
theorem ansR_inv {v : Value} {l : List UInt8} {ps : List MemPlace} (h : ansR v = some (.lit (.string l), ps)) : v = .agg #[.string (tx l)] := by
 unfold ansR at h
 split at h
 · rename_i a
   split at h
   · rename_i s hs
     simp only [Option.some.injEq, Prod.mk.injEq, DataW.lit.injEq, Lit.string.injEq] at h
     have e : a = #[.string s] := by rw [← Array.toList_inj]; exact hs
     rw [e, tx_ext h.1]
   · cases h
 · cases h
theorem Am.look {w : World} {b : Nat} (h : Am w b) (q : Bool) : (Instr.lookup 75 (.map (some b)) (.bool q) false).run Tryz.prog w = .ok (.agg #[.string (tx (if q then yesL else noL))]) w := by
 have hz : (zeroValue 74).run Tryz.prog w = .ok (.agg #[.string ⟨#[]⟩]) w := by kernel_rfl
 obtain ⟨v, ps, hr, hv⟩ := World.ownsMap.lookup h lawB Tryz.underlying75 hz (show ansR (.agg #[.string ⟨#[]⟩]) = some (.lit (.string []), []) from rfl) (keyOf_bool_mk Tryz.underlying4 q)
 have e : ansD.atKey (.bool q) (.lit (.string [])) = .lit (.string (if q then yesL else noL)) := by cases q <;> rfl
 rw [e] at hv
 rw [hr, ansR_inv hv]
theorem answers_any (w : World) : Calls Tryz.prog 30 #[] w (fun e w' => ∃ b, e = .returned (.map (some b)) ∧ Am w' b ∧ Below w.heap.size w w') := by
 have hmm := @run_makeMap Tryz.prog
 have h0 : (w.alloc (.map #[] 0)).ownsMap Tryz.prog 4 ansR w.heap.size 0 (.map []) := World.ownsMap_made w _ _ _
 obtain ⟨w1, hr1, h1, g1⟩ := h0.update lawB Tryz.underlying75 (by decide) (keyOf_bool_mk Tryz.underlying4 true) (show ansR (.agg #[.string ⟨#[121, 101, 115]⟩]) = some (.lit (.string yesL), []) from rfl)
 obtain ⟨w2, hr2, h2, g2⟩ := h1.update lawB Tryz.underlying75 (by decide) (keyOf_bool_mk Tryz.underlying4 false) (show ansR (.agg #[.string ⟨#[110, 111]⟩]) = some (.lit (.string noL), []) from rfl)
 have b0 := (Below.refl w.heap.size w).alloc (Nat.le_refl _) (.map #[] 0)
 have b1 := b0.grown g1 b0.size (fun k e => by injection e with e; omega)
 have hb : Below w.heap.size w w2 := b1.grown g2 b1.size (fun k e => by injection e with e; omega)
 clear b0 b1
 have H2 := Lib.hid h2; have HB := Lib.hid hb
 clear h0 h1 h2 g1 g2 hb
 go_enter Tryz.func30, Tryz.ntmps30
 go_wp2_with (fail)
 go_ret
 exact ⟨_, rfl, H2.out, HB.out⟩
end Go.Proofs.YtimllihegnokeaaGreatDoor.Jo
namespace Go.Proofs.YtimllihegnokeaaGreatDoor.Ov
open Go.ChangeShapes Go.WideShapes Go.ChangeAt Go.RowKit Go.Shelf
def BldF (B b : Nat) (l : List UInt8) (w : World) : Prop := Lib.IsBuilderF 61 5 B b (Lib.byteCells l) w
def Kept (b : Nat) (w w' : World) : Prop := Lib.OthersKept 5 (some b) w w'
theorem writeK_any (B b : Nat) (l : List UInt8) (s : ByteArray) (w : World) (h : BldF B b l w) (hlen : l.length + s.size ≤ 140737488355328) (hB : B ≤ w.heap.size) :
 Calls Tryz.prog 24 #[.pointer (some ⟨b, 0, none⟩), .string s] w fun e w' => e = .returned (.tuple #[.int .i64 s.size, .nilIface]) ∧ BldF B b (l ++ s.data.toList) w' ∧ Below B w w' ∧ Kept b w w' :=
 (Any.Builder_WriteString_k bwsLays bwsExtra B b (Lib.byteCells l) s w h (by rw [Lib.byteCells_length]; exact hlen) hB).mono fun _ w' ⟨he, h1, hb, hk⟩ =>
   ⟨he, by
    rw [Lib.strCells_eq, ← Lib.byteCells_append] at h1
    exact Or.inr h1, hb, hk⟩
theorem byteK_any (B b : Nat) (l : List UInt8) (c : UInt8) (w : World) (h : BldF B b l w) (hlen : l.length + 1 ≤ 140737488355328) (hB : B ≤ w.heap.size) :
 Calls Tryz.prog 109 #[.pointer (some ⟨b, 0, none⟩), .int .u8 (c.toNat : Int)] w fun e w' => e = .returned .nilIface ∧ BldF B b (l ++ [c]) w' ∧ Below B w w' ∧ Kept b w w' :=
 (Any.Builder_WriteByte_k bwbLays bwbExtra B b (Lib.byteCells l) (c.toNat : Int) w h (by rw [Lib.byteCells_length]; exact hlen) hB).mono fun _ w' ⟨he, h1, hb, hk⟩ =>
   ⟨he, by
    have e : Lib.byteCells (l ++ [c]) = Lib.byteCells l ++ [.int .u8 (c.toNat : Int)] := by simp [Lib.byteCells]
    rw [← e] at h1
    exact Or.inr h1, hb, hk⟩
theorem stringK_any (B b : Nat) (l : List UInt8) (w : World) (h : BldF B b l w) (hB : B ≤ w.heap.size) :
 Calls Tryz.prog 32 #[.pointer (some ⟨b, 0, none⟩)] w fun e w' => e = .returned (.string (tx l)) ∧ BldF B b l w' ∧ Below B w w' ∧ Kept b w w' :=
 (Any.Builder_String_any_k bstLays bstExtra B b l w h hB).mono fun _ _ ⟨he, h1, hb, hk⟩ => ⟨he, h1, hb, hk⟩
def blnRen : Ren := ⟨fun | 170 => 31 | n => n, fun | 0 => 0 | 3 => 3 | 5 => 5 | 37 => 59 | 70 => 58 | 72 => 61 | n => n, fun n => n⟩
theorem blnLays : Lays.n170 Tryz.prog blnRen :=
 { mixed := by kernel_rfl
   f170 := by kernel_rfl
   t0 := by kernel_rfl
   a0 := fun _ => by kernel_rfl
   z0 := fun _ => by kernel_rfl
   v0 := fun _ => by kernel_rfl
   t3 := by kernel_rfl
   a3 := fun _ => by kernel_rfl
   z3 := fun _ => by kernel_rfl
   v3 := fun _ => by kernel_rfl
   t37 := by kernel_rfl
   a37 := fun _ => by kernel_rfl
   z37 := fun _ => by kernel_rfl
   v37 := fun _ => by kernel_rfl
   t70 := by kernel_rfl
   a70 := fun _ => by kernel_rfl
   z70 := fun _ => by kernel_rfl
   v70 := fun _ => by kernel_rfl
   t72 := by kernel_rfl
   a72 := fun _ => by kernel_rfl
   z72 := fun _ => by kernel_rfl
   v72 := fun _ => by kernel_rfl }
theorem lenK_any (B b : Nat) (l : List UInt8) (w : World) (h : BldF B b l w) :
 Calls Tryz.prog 31 #[.pointer (some ⟨b, 0, none⟩)] w fun e w' => e = .returned (.int .i64 l.length) ∧ w = w' :=
 (Any.Builder_Len_f blnLays B b (Lib.byteCells l) w h).mono fun _ w' ⟨he, hw⟩ => ⟨by rw [he, Lib.byteCells_length], hw.symm⟩
theorem BldF.fresh (w : World) : BldF w.heap.size w.heap.size [] (w.alloc (.cells #[.pointer none, .slice none 0 0] 61)) := Lib.IsBuilderF.of (Lib.fresh_isBuilder _ _ w)
theorem BldF.old {B b : Nat} {l : List UInt8} {w w' : World} (h : BldF B b l w) (k : Below w.heap.size w w') : BldF B b l w' := by
 have key : ∀ p, Lib.BuilderAtF 61 5 B b p (Lib.byteCells l) w → Lib.BuilderAtF 61 5 B b p (Lib.byteCells l) w' := fun p h => by
  have hlt := h.lt
  obtain ⟨hB, v, hb, hown, hne⟩ := h
  refine ⟨hB, v, by rw [k.block b hlt]; exact hb, hown.kept (row := none) ⟨k.os, k.tape, k.output, k.size, fun i hi _ => k.block i hi⟩ ?_, hne⟩
  cases hv : v.ownBlock with
  | none => exact Or.inl rfl
  | some g => exact Or.inr (by simp)
 exact h.elim (fun h => Or.inl (key _ h)) (fun h => Or.inr (key _ h))
theorem BldF.cast {B b : Nat} {l l' : List UInt8} {w : World} (h : BldF B b l w) (e : l = l') : BldF B b l' w := e ▸ h
theorem BldF.lt {B b : Nat} {l : List UInt8} {w : World} (h : BldF B b l w) : b < w.heap.size := h.elim (fun h => h.lt) (fun h => h.lt)
theorem Kept.refl (b : Nat) (w : World) : Kept b w w := Lib.OthersKept.refl _ _ _
theorem Kept.trans {b : Nat} {w w1 w2 : World} (h : Kept b w w1) (k : Kept b w1 w2) : Kept b w w2 := Lib.OthersKept.trans h k
theorem Kept.of_below {b : Nat} {w w' : World} (k : Below w.heap.size w w') : Kept b w w' := fun i o hi _ _ => by
 rw [k.block i (Array.getElem?_eq_some_iff.1 hi).1]; exact hi
def cutb (c : UInt8) : List UInt8 → Option (List UInt8 × List UInt8)
 | [] => none
 | b :: t => if b = c then some ([], t) else (cutb c t).map fun p => (b :: p.1, p.2)
theorem cutb_some {c : UInt8} : ∀ {s a r : List UInt8}, cutb c s = some (a, r) → s = a ++ c :: r ∧ c ∉ a
 | [], _, _, h => by cases h
 | b :: t, a, r, h => by
   unfold cutb at h
   split at h
   · rename_i hb
     injection h with h; injection h with h1 h2
     subst h1 h2 hb
     exact ⟨rfl, by simp⟩
   · rename_i hb
     cases ht : cutb c t with
     | none => rw [ht] at h; cases h
     | some q =>
       obtain ⟨a1, r1⟩ := q
       rw [ht] at h
       injection h with h; injection h with h1 h2
       obtain ⟨e, hn⟩ := cutb_some ht
       simp only at h1 h2
       subst h1 h2
       exact ⟨by rw [e]; rfl, by simp; exact ⟨fun e => hb e.symm, hn⟩⟩
theorem cutb_app {c : UInt8} : ∀ (a r : List UInt8), c ∉ a → cutb c (a ++ c :: r) = some (a, r)
 | [], r, _ => by show (if c = c then _ else _) = _; rw [if_pos rfl]
 | b :: t, r, h => by
   simp at h
   show (if b = c then _ else (cutb c (t ++ c :: r)).map _) = _
   rw [if_neg (fun e => h.1 e.symm), cutb_app t r h.2]; rfl
theorem cutb_none {c : UInt8} : ∀ {s : List UInt8}, c ∉ s → cutb c s = none
 | [], _ => rfl
 | b :: t, h => by
   simp at h
   show (if b = c then _ else (cutb c t).map _) = _
   rw [if_neg (fun e => h.1 e.symm), cutb_none h.2]; rfl
theorem cutb_no {c : UInt8} : ∀ {s : List UInt8}, cutb c s = none → c ∉ s
 | [], _ => by simp
 | b :: t, h => by
   unfold cutb at h
   split at h
   · cases h
   · rename_i hb
     cases ht : cutb c t with
     | none => have := cutb_no ht; simp; exact ⟨fun e => hb e.symm, this⟩
     | some q => rw [ht] at h; cases h
theorem ixb_cutb (c : UInt8) : ∀ s : List UInt8, Lib.indexByte s c = match cutb c s with | some p => (p.1.length : Int) | none => -1
 | [] => rfl
 | b :: t => by
   have ih := ixb_cutb c t
   unfold Lib.indexByte cutb
   by_cases hb : b = c
   · rw [if_pos (by simp [hb]), if_pos hb]; rfl
   · rw [if_neg (by simp; exact hb), if_neg hb, ih]
     cases ht : cutb c t with
     | none => rfl
     | some q => simp only [Option.map_some]; rw [if_neg (by simp)]; simp
def sixRen : Ren := ⟨fun | 217 => 236 | 219 => 184 | 224 => 238 | 225 => 237 | 266 => 258 | 267 => 239 | 314 => 259 | n => n, fun | 3 => 3 | 4 => 4 | 5 => 5 | 9 => 9 | 46 => 192 | 51 => 101 | 146 => 253 | n => n, fun | 1 => 2 | n => n⟩
theorem sixLays : Lays.n219 Tryz.prog sixRen :=
 { mixed := by kernel_rfl
   f217 := by kernel_rfl
   f219 := by kernel_rfl
   f224 := by kernel_rfl
   f225 := by kernel_rfl
   f266 := by kernel_rfl
   f267 := by kernel_rfl
   f314 := by kernel_rfl
   t3 := by kernel_rfl
   a3 := fun _ => by kernel_rfl
   z3 := fun _ => by kernel_rfl
   v3 := fun _ => by kernel_rfl
   t4 := by kernel_rfl
   a4 := fun _ => by kernel_rfl
   z4 := fun _ => by kernel_rfl
   v4 := fun _ => by kernel_rfl
   t5 := by kernel_rfl
   a5 := fun _ => by kernel_rfl
   z5 := fun _ => by kernel_rfl
   v5 := fun _ => by kernel_rfl
   t9 := by kernel_rfl
   a9 := fun _ => by kernel_rfl
   z9 := fun _ => by kernel_rfl
   v9 := fun _ => by kernel_rfl
   t46 := by kernel_rfl
   a46 := fun _ => by kernel_rfl
   z46 := fun _ => by kernel_rfl
   v46 := fun _ => by kernel_rfl
   t51 := by kernel_rfl
   a51 := fun _ => by kernel_rfl
   z51 := fun _ => by kernel_rfl
   v51 := fun _ => by kernel_rfl
   t146 := by kernel_rfl
   a146 := fun _ => by kernel_rfl
   z146 := fun _ => by kernel_rfl
   v146 := fun _ => by kernel_rfl
   g1 := by kernel_rfl }
def conRen : Ren := ⟨fun | 143 => 178 | 144 => 113 | 217 => 236 | 219 => 184 | 224 => 238 | 225 => 237 | 266 => 258 | 267 => 239 | 314 => 259 | n => n, fun | 3 => 3 | 4 => 4 | 5 => 5 | 9 => 9 | 46 => 192 | 51 => 101 | 146 => 253 | n => n, fun | 1 => 2 | n => n⟩
theorem conLays : Lays.n144 Tryz.prog conRen :=
 { mixed := by kernel_rfl
   f143 := by kernel_rfl
   f144 := by kernel_rfl
   f217 := by kernel_rfl
   f219 := by kernel_rfl
   f224 := by kernel_rfl
   f225 := by kernel_rfl
   f266 := by kernel_rfl
   f267 := by kernel_rfl
   f314 := by kernel_rfl
   t3 := by kernel_rfl
   a3 := fun _ => by kernel_rfl
   z3 := fun _ => by kernel_rfl
   v3 := fun _ => by kernel_rfl
   t4 := by kernel_rfl
   a4 := fun _ => by kernel_rfl
   z4 := fun _ => by kernel_rfl
   v4 := fun _ => by kernel_rfl
   t5 := by kernel_rfl
   a5 := fun _ => by kernel_rfl
   z5 := fun _ => by kernel_rfl
   v5 := fun _ => by kernel_rfl
   t9 := by kernel_rfl
   a9 := fun _ => by kernel_rfl
   z9 := fun _ => by kernel_rfl
   v9 := fun _ => by kernel_rfl
   t46 := by kernel_rfl
   a46 := fun _ => by kernel_rfl
   z46 := fun _ => by kernel_rfl
   v46 := fun _ => by kernel_rfl
   t51 := by kernel_rfl
   a51 := fun _ => by kernel_rfl
   z51 := fun _ => by kernel_rfl
   v51 := fun _ => by kernel_rfl
   t146 := by kernel_rfl
   a146 := fun _ => by kernel_rfl
   z146 := fun _ => by kernel_rfl
   v146 := fun _ => by kernel_rfl
   g1 := by kernel_rfl }
def trpRen : Ren := ⟨fun | 101 => 180 | 206 => 253 | 208 => 233 | n => n, fun | 3 => 3 | 4 => 4 | 9 => 9 | n => n, fun n => n⟩
theorem trpLays : Lays.n101 Tryz.prog trpRen :=
 { mixed := by kernel_rfl
   f101 := by kernel_rfl
   f206 := by kernel_rfl
   f208 := by kernel_rfl
   t3 := by kernel_rfl
   a3 := fun _ => by kernel_rfl
   z3 := fun _ => by kernel_rfl
   v3 := fun _ => by kernel_rfl
   t4 := by kernel_rfl
   a4 := fun _ => by kernel_rfl
   z4 := fun _ => by kernel_rfl
   v4 := fun _ => by kernel_rfl
   t9 := by kernel_rfl
   a9 := fun _ => by kernel_rfl
   z9 := fun _ => by kernel_rfl
   v9 := fun _ => by kernel_rfl }
theorem has_any (s : ByteArray) (c : UInt8) (w : World) :
 Calls Tryz.prog 113 #[.string s, .string ⟨#[c]⟩] w fun e w' => e = .returned (.bool (decide (c ∈ s.data.toList))) ∧ w = w' :=
 (Any.strings_Contains_one conLays s c w).mono fun _ _ ⟨he, hw⟩ => ⟨by
   rw [he]
   have e : decide (0 ≤ Lib.indexByte s.data.toList c) = decide (c ∈ s.data.toList) := by
    rw [ixb_cutb]
    cases ht : cutb c s.data.toList with
    | none => rw [decide_eq_false (cutb_no ht)]; rfl
    | some q => obtain ⟨a, r⟩ := q; rw [decide_eq_true (show c ∈ s.data.toList by rw [(cutb_some ht).1]; simp)]; exact decide_eq_true (by simp only; omega)
   exact congrArg (fun b => Ending.returned (.bool b)) e, hw.symm⟩
theorem trim_any (s : ByteArray) (c : UInt8) (w : World) :
 Calls Tryz.prog 180 #[.string s, .string ⟨#[c]⟩] w fun e w' => e = .returned (.string (tx (if s.data.toList.head? = some c then s.data.toList.tail else s.data.toList))) ∧ w = w' :=
 (Any.strings_TrimPrefix trpLays s ⟨#[c]⟩ w).mono fun _ _ ⟨he, hw⟩ => ⟨by
   rw [he]
   have e : Lib.trimPrefix s.data.toList [c] = if s.data.toList.head? = some c then s.data.toList.tail else s.data.toList := by
    unfold Lib.trimPrefix
    cases s.data.toList with
    | nil => rfl
    | cons a t =>
      by_cases h : a = c
      · subst h; simp [Lib.hasPrefix, List.isPrefixOf]
      · have h2 : ¬ c = a := fun e => h e.symm
        simp [Lib.hasPrefix, List.isPrefixOf, h, h2]
   exact congrArg (fun b => Ending.returned (.string ⟨b.toArray⟩)) e, hw.symm⟩
def cq (c : UInt8) (s : List UInt8) : List UInt8 × List UInt8 × Bool := match cutb c s with | some p => (p.1, p.2, true) | none => (s, [], false)
set_option maxHeartbeats 1000000 in
theorem slcut_any (s : ByteArray) (c : UInt8) (w : World) (hs : s.size ≤ 4294967296) : Calls Tryz.prog 120 #[.string s, .string ⟨#[c]⟩] w (Gives (.tuple #[.string (tx (cq c s.data.toList).1), .string (tx (cq c s.data.toList).2.1), .bool (cq c s.data.toList).2.2]) w) := by
 have HI := Lib.hid (Any.stringslite_Index_one sixLays s c w)
 rw [ixb_cutb] at HI
 unfold cq
 cases ht : cutb c s.data.toList with
 | none =>
   rw [ht] at HI
   clear ht
   simp only at HI ⊢
   go_enter Tryz.func120, Tryz.ntmps120
   go_wp2_with (fail)
   refine HI.out.mono ?_
   rintro e w' ⟨rfl, rfl⟩
   go_wp2_with (fail)
   exact bodyPost_ret (v := .tuple #[.string s, .string ⟨#[]⟩, .bool false]) (by simp [results, Tryz.results120, go_sem]) rfl ⟨by rw [tx_of]; rfl, Below.refl _ _⟩
 | some q =>
   obtain ⟨a, r⟩ := q
   rw [ht] at HI
   obtain ⟨es, -⟩ := cutb_some ht
   clear ht
   simp only at HI ⊢
   have hl : s.size = a.length + 1 + r.length := by rw [← ByteArray.size_data, ← Array.length_toList, es]; simp; omega
   have h1 : s.extract 0 a.length = tx a := by rw [ext_take, es]; simp
   have h2 : s.extract (a.length + 1) s.size = tx r := by rw [ext_drop, es, List.drop_append, List.drop_of_length_le (by omega)]; simp
   obtain ⟨n, hn⟩ : ∃ n, a.length = n := ⟨_, rfl⟩
   rw [hn] at HI hl h1 h2
   have c1 : (0 : Int) ≤ ↑n := by omega
   have c2 : (↑n : Int) ≤ ↑s.size := by omega
   have c3 : (0 : Int) ≤ ↑n + 1 := by omega
   have c4 : (↑n + 1 : Int) ≤ ↑s.size := by omega
   have H1 := Lib.hid h1; have H2 := Lib.hid h2
   clear es hn h1 h2 hl
   go_enter Tryz.func120, Tryz.ntmps120
   go_wp2_with (fail)
   refine HI.out.mono ?_
   rintro e w' ⟨rfl, rfl⟩
   go_wp2_with (fail)
   go_quiet (fail)
   go_wp2_with (fail)
   exact bodyPost_ret (v := .tuple #[.string (s.extract 0 n), .string (s.extract (n + 1) s.size), .bool true]) (by simp [results, Tryz.results120, go_sem]) rfl ⟨by rw [H1.out, H2.out], below_drewN (Below.refl _ _) _⟩
theorem cut_any (s : ByteArray) (c : UInt8) (w : World) (hs : s.size ≤ 4294967296) : Calls Tryz.prog 76 #[.string s, .string ⟨#[c]⟩] w (Gives (.tuple #[.string (tx (cq c s.data.toList).1), .string (tx (cq c s.data.toList).2.1), .bool (cq c s.data.toList).2.2]) w) := by
 have HI := Lib.hid (slcut_any s c w hs)
 generalize cq c s.data.toList = q at *
 obtain ⟨a, r, x⟩ := q
 go_enter Tryz.func76, Tryz.ntmps76
 go_wp2_with (fail)
 refine HI.out.mono ?_
 rintro e w' ⟨rfl, hb⟩
 go_wp2_with (fail)
 exact bodyPost_ret (v := .tuple #[.string (tx a), .string (tx r), .bool x]) (by simp [results, Tryz.results76, go_sem]) rfl ⟨rfl, hb⟩
end Go.Proofs.YtimllihegnokeaaGreatDoor.Ov
namespace Go.Proofs.YtimllihegnokeaaGreatDoor.Ov
open Go.ChangeShapes Go.WideShapes Go.ChangeAt Go.RowKit
structure Tur (b : Nat) (w w' : World) : Prop where
 os : w'.os = w.os
 tape : w'.tape = w.tape
 output : w'.output = w.output
 size : w.heap.size ≤ w'.heap.size
 block : ∀ k, k < w.heap.size → k ≠ b → w'.heap[k]? = w.heap[k]?
section
variable {w w' w'' : World} {b : Nat}
theorem Tur.refl : Tur b w w := ⟨rfl, rfl, rfl, Nat.le_refl _, fun _ _ _ => rfl⟩
theorem Tur.trans (h : Tur b w w') (k : Tur b w' w'') : Tur b w w'' :=
 ⟨k.os.trans h.os, k.tape.trans h.tape, k.output.trans h.output, Nat.le_trans h.size k.size, fun i hi hb => (k.block i (Nat.lt_of_lt_of_le hi h.size) hb).trans (h.block i hi hb)⟩
theorem Below.tur (h : Below w.heap.size w w') : Tur b w w' := ⟨h.os, h.tape, h.output, h.size, fun k hk _ => h.block k hk⟩
theorem Tur.below {lo : Nat} (h : Tur b w w') (hb : lo ≤ b) (hl : lo ≤ w.heap.size) : Below lo w w' := ⟨h.os, h.tape, h.output, h.size, fun k hk => h.block k (by omega) (by omega)⟩
theorem Tur.setCell (h : Tur b w w') (j : Nat) (v : Value) : Tur b w (w'.setCell ⟨b, j, none⟩ v) :=
 h.trans ⟨rfl, rfl, rfl, by simp [World.setCell], fun k _ hk => Below.heap_setCell _ _ _ _ hk⟩
theorem Tur.cell (h : Tur b w w') {p : Addr} (hp : p.block ≠ b) (hl : p.block < w.heap.size) : w'.cell? p = w.cell? p := World.cell?_of_block (w := w) (h.block _ hl hp)
variable {t : TypeId} {v u : Value}
end
end Go.Proofs.YtimllihegnokeaaGreatDoor.Ov
namespace Go.Proofs.YtimllihegnokeaaGreatDoor.Tp
open Go.ChangeShapes Go.WideShapes Go.ChangeAt Go.RowKit Ov
def JC (s : ByteArray) (w : World) (a' : Act) (w' : World) : Prop := ∃ (i n : Nat) (u7 u8 u9 u10 u11 u12 u13 u14 u15 u16 u17 u18 u19 u20 u21 u22 u23 u24 u25 u26 u27 u28 u29 u30 u31 u32 u33 u34 u35 u36 u37 u38 u39 u40 u41 u42 u43 u44 u45 u46 u47 u48 : Value),
 i < 8 ∧ i ≤ s.size ∧ n < 2 ^ (7 * i) ∧ cn 0 0 s.data.toList = cn i n (s.data.toList.drop i) ∧ w' = w ∧
 a' = { tmps := #[.string s, undef, .int .i64 0, .string ⟨#[]⟩, .int .i64 0, .int .i64 (n : Int), .int .i64 (i : Int), u7, u8, u9, u10, u11, u12, u13, u14, u15, u16, u17, u18, u19, u20, u21, u22, u23, u24, u25, u26, u27, u28, u29, u30, u31, u32, u33, u34, u35, u36, u37, u38, u39, u40, u41, u42, u43, u44, u45, u46, u47, u48], defers := [] }
def muC (a : Act) (_ : World) : Nat := 8 - (intOf (a.tmps.getD 6 undef)).toNat
def cv (r : Nat × List UInt8 × Nat) : Value := .tuple #[.int .i64 (r.1 : Int), .string (tx r.2.1), .int .i64 (r.2.2 : Int)]
end Go.Proofs.YtimllihegnokeaaGreatDoor.Tp
namespace Go.Proofs.YtimllihegnokeaaGreatDoor.Va
open Ov Tp Ga
end Go.Proofs.YtimllihegnokeaaGreatDoor.Va
namespace Go.Proofs.YtimllihegnokeaaGreatDoor.Tp
open Go.ChangeShapes Go.WideShapes Go.ChangeAt Go.RowKit Ov
end Go.Proofs.YtimllihegnokeaaGreatDoor.Tp
namespace Go.Proofs.YtimllihegnokeaaGreatDoor.Jo
open Go.ChangeShapes Go.WideShapes Go.ChangeAt Go.RowKit Ov Va
theorem sat5_take {s : ByteArray} {k : Nat} (h : k < s.size) : sat5 (s.data.toList.take (k + 1)) = min (10 * sat5 (s.data.toList.take k) + (s[k].toNat - 48)) 100001 := by
 have e : s.data.toList.take (k + 1) = s.data.toList.take k ++ [s[k]] := by
  rw [List.take_succ_eq_append_getElem (by simpa using h)]; rfl
 rw [e, sat5_snoc]
def dcr (l : List UInt8) : Int × Bool := match dcm l with | some n => (n, true) | none => (0, false)
theorem dcr_none {l : List UInt8} (h : dcm l = none) : dcr l = (0, false) := by unfold dcr; rw [h]
theorem dcr_some {l : List UInt8} {n : Int} (h : dcm l = some n) : dcr l = (n, true) := by unfold dcr; rw [h]
set_option maxRecDepth 100000 in
set_option maxHeartbeats 4000000 in
theorem dec_any (s : ByteArray) (hs : s.size ≤ 281474976710656) (w : World) : Calls Tryz.prog 116 #[.string s] w (Gives (.tuple #[.int .i64 (dcr s.data.toList).1, .bool (dcr s.data.toList).2]) w) := by
 obtain ⟨D, hD⟩ : ∃ D, tx (digs s.data.toList) = D := ⟨_, rfl⟩
 have hDl : D.data.toList = digs s.data.toList := by rw [← hD, tx_list]
 have HT : Hid (Calls Tryz.prog 180 #[.string s, .string ⟨#[45]⟩] w fun e w' => e = .returned (.string D) ∧ w = w') := Lib.hid (by rw [← hD]; exact trim_any s 45 w)
 have hDs : D.size ≤ s.size := by
  rw [← ByteArray.size_data, ← Array.length_toList, hDl, ← ByteArray.size_data, ← Array.length_toList]
  unfold digs; split <;> simp
 have HDL := Lib.hid hDl
 clear hD
 have hss := hs
 clear hs
 by_cases h0 : D.size = 0
 · have hd0 : digs s.data.toList = [] := by rw [← hDl]; exact List.eq_nil_of_length_eq_zero (by simpa using h0)
   have HR := Lib.hid (dcr_none (l := s.data.toList) (by unfold dcm; rw [if_pos (Or.inl hd0)]))
   have h1 := empty_of h0
   clear hDl hDs hss h0 hd0
   go_enter Tryz.func116, Tryz.ntmps116
   go_wp2_with (fail)
   refine HT.out.mono ?_
   rintro e w' ⟨rfl, rfl⟩
   go_wp2_with (fail)
   exact bodyPost_ret (v := .tuple #[.int .i64 0, .bool false]) (by simp [results, Tryz.results116, go_sem]) rfl ⟨by rw [HR.out], Below.refl _ _⟩
 · have h1 : D.toList.isEmpty = false := by simpa using full_of h0
   have h3 : 0 < D.size := by omega
   obtain ⟨c0, hc0⟩ : ∃ c : UInt8, D[0]'h3 = c := ⟨_, rfl⟩
   have hc0l := c0.toNat_lt
   have hhd : (digs s.data.toList).head? = some c0 := by rw [← hDl]; have := head_at h3; rw [hc0] at this; exact this
   by_cases hz : c0.toNat = 48 ∧ s.data.toList ≠ [48]
   · obtain ⟨z1, z2⟩ := hz
     have hz1 : c0 = 48 := UInt8.toNat_inj.1 z1
     have HR := Lib.hid (dcr_none (l := s.data.toList) (by unfold dcm; rw [if_pos (Or.inr ⟨by rw [hhd, hz1], z2⟩)]))
     have hne : (s.toList == [48]) = false := beq_eq_false_iff_ne.2 (by rw [ByteArray.toList_eq]; exact z2)
     subst hz1
     clear hDl hDs hss h0 hhd z2
     go_enter Tryz.func116, Tryz.ntmps116
     go_wp2_with (fail)
     refine HT.out.mono ?_
     rintro e w' ⟨rfl, rfl⟩
     go_wp2_with (fail)
     exact bodyPost_ret (v := .tuple #[.int .i64 0, .bool false]) (by simp [results, Tryz.results116, go_sem]) rfl ⟨by rw [HR.out], Below.refl _ _⟩
   · have HZ : Hid (¬ (digs s.data.toList = [] ∨ ((digs s.data.toList).head? = some 48 ∧ s.data.toList ≠ [48]))) := Lib.hid (by
      rintro (e | ⟨e, e2⟩)
      · rw [e] at hhd; cases hhd
      · rw [hhd] at e; injection e with e; exact hz ⟨by rw [e]; rfl, e2⟩)
     have hz2 : ((c0.toNat : Int) == 48) = false ∨ ((((c0.toNat : Int) == 48) = true) ∧ (s.toList == [48]) = true) := by
      by_cases h : c0.toNat = 48
      · refine Or.inr ⟨beq_iff_eq.2 (by omega), beq_iff_eq.2 ?_⟩
        rw [ByteArray.toList_eq]
        exact Decidable.not_not.1 fun e => hz ⟨h, e⟩
      · exact Or.inl (beq_eq_false_iff_ne.2 (by omega))
     clear hz hhd h0 hDl
     rcases hz2 with y1 | ⟨y1, y2⟩
     all_goals
      go_enter Tryz.func116, Tryz.ntmps116
      go_wp2_with (fail)
      refine HT.out.mono ?_
      rintro e w' ⟨rfl, rfl⟩
      go_wp2_with (fail)
      clear y1 h1 hc0 hc0l
      first | clear y2 | skip
      go_loop [5, 22] (fun n i => ∃ k : Nat, k ≤ D.size ∧ n = .int .i64 (sat5 (D.data.toList.take k) : Int) ∧ i = .int .i64 (k : Int) ∧ ∀ c ∈ D.data.toList.take k, dg c = true) (fun _ i => D.size - (intOf i).toNat)
      case atStart => exact ⟨0, Nat.zero_le _, rfl, rfl, by simp⟩
      case round =>
       obtain ⟨k, hk, rfl, rfl, hall⟩ := hrel
       have HA := Lib.hid hall; clear hall
       by_cases hlt : k < D.size
       · obtain ⟨c, hc⟩ : ∃ c : UInt8, D[k] = c := ⟨_, rfl⟩
         have hcl := c.toNat_lt
         have HC := Lib.hid hc
         by_cases hd : dg c = true
         · obtain ⟨b1, b2⟩ : 48 ≤ c.toNat ∧ c.toNat ≤ 57 := of_decide_eq_true hd
           have HS := Lib.hid (sat5_take hlt)
           rw [hc] at HS
           have hnb := sat5_le (D.data.toList.take k)
           have HN : Hid (∀ c ∈ D.data.toList.take (k + 1), dg c = true) := Lib.hid (by
            have e : D.data.toList.take (k + 1) = D.data.toList.take k ++ [c] := by
             rw [List.take_succ_eq_append_getElem (by simpa using hlt), ← hc]; rfl
            rw [e]
            intro x hx
            rcases List.mem_append.1 hx with hx | hx
            · exact HA.out x hx
            · rw [List.mem_singleton.1 hx]; exact hd)
           generalize sat5 (D.data.toList.take k) = n at *
           have g1 : decide ((c.toNat : Int) < 48) = false := decide_eq_false (by omega)
           have g2 : decide (57 < (c.toNat : Int)) = false := decide_eq_false (by omega)
           have HM : Hid (min (10 * (n : Int) + ((c.toNat : Int) - 48)) 100001 = ((min (10 * n + (c.toNat - 48)) 100001 : Nat) : Int)) := by show _ = _; omega
           clear hd
           go_wp2_with (fail)
           refine ⟨⟨k + 1, by omega, by rw [HS.out, ← HM.out], by go_num, HN.out⟩, by simp [intOf]; omega⟩
         · have HR : Hid (dcr s.data.toList = (0, false)) := Lib.hid (dcr_none (by
            unfold dcm
            rw [if_neg HZ.out, if_neg]
            intro h
            have hm : c ∈ D.data.toList := by rw [← hc]; exact List.getElem_mem (l := D.data.toList) (n := k) (by simpa using hlt)
            rw [HDL.out] at hm
            exact hd (List.all_eq_true.1 h c hm)))
           have hd2 : c.toNat < 48 ∨ (48 ≤ c.toNat ∧ 57 < c.toNat) := by
            rcases Nat.lt_or_ge c.toNat 48 with h | h
            · exact Or.inl h
            · exact Or.inr ⟨h, Nat.lt_of_not_le fun e => hd (decide_eq_true ⟨h, e⟩)⟩
           clear hd
           rcases hd2 with b1 | ⟨b1, b2⟩
           · have g1 : decide ((c.toNat : Int) < 48) = true := decide_eq_true (by omega)
             go_wp2_with (fail)
             exact bodyPost_ret (v := .tuple #[.int .i64 0, .bool false]) (by simp [results, Tryz.results116, go_sem]) rfl ⟨by rw [HR.out], Below.refl _ _⟩
           · have g1 : decide ((c.toNat : Int) < 48) = false := decide_eq_false (by omega)
             have g2 : decide (57 < (c.toNat : Int)) = true := decide_eq_true (by omega)
             go_wp2_with (fail)
             exact bodyPost_ret (v := .tuple #[.int .i64 0, .bool false]) (by simp [results, Tryz.results116, go_sem]) rfl ⟨by rw [HR.out], Below.refl _ _⟩
       · obtain rfl : k = D.size := by omega
         have HV : Hid (dcm s.data.toList = some (if s.data.toList.head? = some 45 then -(sat5 D.data.toList : Int) else (sat5 D.data.toList : Int))) := Lib.hid (by
          unfold dcm
          rw [if_neg HZ.out, if_pos, HDL.out]
          have h := HA.out
          rw [List.take_of_length_le (by simp), HDL.out] at h
          exact List.all_eq_true.2 h)
         have hnb := sat5_le D.data.toList
         have ht : D.data.toList.take D.size = D.data.toList := List.take_of_length_le (by simp)
         rw [ht]
         by_cases hm : s.data.toList.head? = some 45
         · have hne : (D.toList == s.toList) = false := beq_eq_false_iff_ne.2 (by
            rw [ByteArray.toList_eq, ByteArray.toList_eq, HDL.out]
            intro e
            have := congrArg List.length e
            unfold digs at this
            rw [if_pos hm, List.length_tail] at this
            cases h : s.data.toList with
            | nil => rw [h] at hm; cases hm
            | cons x t => rw [h] at this; simp at this)
           have HR := Lib.hid (dcr_some (by rw [HV.out, if_pos hm]))
           generalize sat5 D.data.toList = n at *
           clear ht hm HV
           go_wp2_with (fail)
           exact bodyPost_ret (v := .tuple #[.int .i64 (-(n : Int)), .bool true]) (by simp [results, Tryz.results116, go_sem]) rfl ⟨by rw [HR.out], Below.refl _ _⟩
         · obtain rfl : D = s := by
            have e := HDL.out
            unfold digs at e; rw [if_neg hm] at e
            rw [← tx_of D, e, tx_of]
           have HR := Lib.hid (dcr_some (by rw [HV.out, if_neg hm]))
           generalize sat5 D.data.toList = n at *
           clear ht hm HV
           go_wp2_with (fail)
           exact bodyPost_ret (v := .tuple #[.int .i64 (n : Int), .bool true]) (by simp [results, Tryz.results116, go_sem]) rfl ⟨by rw [HR.out], Below.refl _ _⟩
end Go.Proofs.YtimllihegnokeaaGreatDoor.Jo

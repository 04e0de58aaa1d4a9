/-
  Small texts of this claim, together: OvRowB, DkMath, DkMem, DkRoom, DkRead, DkSpoil, DkTurn, FrSortL, OvTail, OvInv, OvSorted, OvStrs, DkRow, TpOne, FrDec, FrArg.
-/
import Derived.Test.YtchmepalhldpcaaGreatDoorQ1
import Derived.Lib.ConvBytes
import Derived.Sort.KeysCollected
import Derived.Maps.RangeWalk
import Derived.WideMake
import Derived.Laws.BytesArg
import Derived.Shelf.SlSortCmp.NoneTotal
import Derived.Shelf.Small.Wraps
import Derived.StillTail
import Derived.Shelf.SlIter.Nil
import Derived.Shelf.SortM.Plain
import Derived.Shelf.SortM.SortNone
import Derived.Deep.Strs
import Derived.Deep.OwnRows
import Derived.RegionTactic
import Derived.ChangeAlike
import Derived.Lib.ItoaLen
import Derived.WalkKit
import Derived.ProofKit
import Derived.Lib.SmallJoins
import Derived.OpenShut
import Derived.ShutString
namespace Go.Proofs.YtchmepalhldpcaaGreatDoor.Ov
open Go.ChangeShapes Go.WideShapes Go.ChangeAt Go.RowKit
structure RowB (w : World) (g : Nat) (l : List UInt8) : Prop where
 cell : ∀ j (hj : j < l.length), w.cell? ⟨g, j, none⟩ = some (.int .u8 (l[j].toNat : Int))
 thaw : ∀ j, j < l.length → w.frozen? ⟨g, j, none⟩ = false
section
variable {w w' : World} {g : Nat} {l : List UInt8}
theorem RowB.lt (h : RowB w g l) (hl : l ≠ []) : g < w.heap.size := block_lt_of_cell (h.cell 0 (List.length_pos_iff.2 hl))
theorem RowB.kp {O : Nat → Prop} (h : RowB w g l) (k : Kp O w w') (hO : l ≠ [] → ¬ O g) : RowB w' g l :=
 ⟨fun j hj => (k.cell (p := ⟨g, j, none⟩) (hO fun e => by rw [e] at hj; cases hj) (block_lt_of_cell (h.cell j hj))).trans (h.cell j hj),
  fun j hj => (k.frozen (p := ⟨g, j, none⟩) (hO fun e => by rw [e] at hj; cases hj) (block_lt_of_cell (h.cell j hj))).trans (h.thaw j hj)⟩
theorem RowB.text {m c : Nat} (h : RowB w g l) (hm : m = l.length) : (convert 67 9 (.slice (some ⟨g, 0, none⟩) m c)).run Tryz.prog w = .ok (.string (tx l)) w :=
 run_text hm fun j hj => by rw [Nat.zero_add]; exact h.cell j hj
end
theorem bytes_made (s : ByteArray) (w : World) : ∃ cap w', (convert 9 67 (.string s)).run Tryz.prog w = .ok (.slice (some ⟨w.heap.size, 0, none⟩) s.size cap) w' ∧ s.size ≤ cap ∧ RowB w' w.heap.size s.data.toList ∧ Below w.heap.size w w' ∧ w'.heap.size = w.heap.size + 1 := by
 have hl : s.data.toList.length = s.size := by simp
 refine ⟨_, _, Lib.run_convert_string_bytes w 9 67 5 s Tryz.underlying9 Tryz.underlying67 Tryz.underlying5, ?_, ⟨fun j hj => ?_, fun j hj => ?_⟩,
  ⟨rfl, rfl, rfl, by rw [Lib.bytesWorld_size]; omega, Lib.bytesWorld_at_old w _ s⟩, Lib.bytesWorld_size w _ s⟩
 · exact grownCap_ge w s.size 0 _
 · rw [Lib.bytesWorld_cell w _ s j (by rwa [hl] at hj)]
   congr 3
   have e : s.data[j]? = some s.data[j] := Array.getElem?_eq_getElem (by simpa using hj)
   simp [List.getD, e]
 · have hz : j < (Lib.bytesCells w 5 s).size := by
    rw [hl] at hj
    simp [Lib.bytesCells]; omega
   simp [World.frozen?, Lib.bytesWorld_at_new]; omega
end Go.Proofs.YtchmepalhldpcaaGreatDoor.Ov
namespace Go.Proofs.YtchmepalhldpcaaGreatDoor.Dk
open Go.ChangeShapes Go.WideShapes Go.ChangeAt Go.RowKit Go.ChangeMaps Go.Maps Ov
def bf (a b : List UInt8) : Bool := (Lit.string a).before (.string b)
theorem bf_irrefl (a : List UInt8) : bf a a = false := before_irrefl _
theorem bf_trans {a b c : List UInt8} (h : bf a b = true) (k : bf b c = true) : bf a c = true := before_trans h k
theorem bf_total {a b : List UInt8} (h : a ≠ b) : bf a b = true ∨ bf b a = true := before_total ⟨a, rfl⟩ ⟨b, rfl⟩ fun e => h (by injection e)
theorem bf_le : ∀ {a b : List UInt8}, bf a b = true → a ≤ b
 | [], _, _ => List.nil_le _
 | _ :: _, [], h => by simp [bf, Lit.before, bytesBefore] at h
 | a :: r, b :: s, h => by
   have h' : (a < b || (a == b && bytesBefore r s)) = true := h
   simp only [Bool.or_eq_true, decide_eq_true_eq, Bool.and_eq_true, beq_iff_eq] at h'
   rcases h' with h' | ⟨rfl, h'⟩
   · exact List.cons_le_cons_iff.2 (.inl h')
   · exact List.cons_le_cons_iff.2 (.inr ⟨rfl, bf_le h'⟩)
section
variable {α β : Type}
def Srt (l : List (List UInt8 × α)) : Prop := l.Pairwise fun x y => bf x.1 y.1 = true
def rm (n : List UInt8) (l : List (List UInt8 × α)) : List (List UInt8 × α) := l.filter fun x => x.1 != n
def ins (n : List UInt8) (a : α) : List (List UInt8 × α) → List (List UInt8 × α)
 | [] => [(n, a)]
 | y :: r => if bf n y.1 then (n, a) :: y :: r else y :: ins n a r
def pt (n : List UInt8) (a : α) (l : List (List UInt8 × α)) : List (List UInt8 × α) := ins n a (rm n l)
def gt (n : List UInt8) (l : List (List UInt8 × α)) : Option α := (l.find? fun x => x.1 == n).map (·.2)
theorem srt_ne {l : List (List UInt8 × α)} (h : Srt l) : l.Pairwise fun x y => x.1 ≠ y.1 := h.imp fun {x y} hb e => by rw [e, bf_irrefl] at hb; cases hb
theorem srt_rm {l : List (List UInt8 × α)} (h : Srt l) (n : List UInt8) : Srt (rm n l) := h.filter _
theorem mem_rm {l : List (List UInt8 × α)} {n : List UInt8} {x : List UInt8 × α} : x ∈ rm n l ↔ x ∈ l ∧ x.1 ≠ n := by simp [rm, List.mem_filter]
theorem ins_perm (n : List UInt8) (a : α) : ∀ l : List (List UInt8 × α), (ins n a l).Perm ((n, a) :: l)
 | [] => .refl _
 | y :: r => by
   unfold ins
   split
   · exact .refl _
   · exact ((ins_perm n a r).cons y).trans (.swap _ _ _)
theorem mem_ins {n : List UInt8} {a : α} {l : List (List UInt8 × α)} {x : List UInt8 × α} : x ∈ ins n a l ↔ x = (n, a) ∨ x ∈ l := by rw [(ins_perm n a l).mem_iff, List.mem_cons]
theorem mem_pt {n : List UInt8} {a : α} {l : List (List UInt8 × α)} {x : List UInt8 × α} : x ∈ pt n a l ↔ x = (n, a) ∨ (x ∈ l ∧ x.1 ≠ n) := by unfold pt; rw [mem_ins, mem_rm]
theorem srt_ins {n : List UInt8} (a : α) : ∀ {l : List (List UInt8 × α)}, Srt l → (∀ x ∈ l, x.1 ≠ n) → Srt (ins n a l)
 | [], _, _ => List.pairwise_singleton _ _
 | y :: r, h, hn => by
   obtain ⟨h1, h2⟩ := List.pairwise_cons.1 h
   unfold ins
   split
   · rename_i hb
     refine List.pairwise_cons.2 ⟨fun x hx => ?_, h⟩
     rcases List.mem_cons.1 hx with rfl | hx
     · exact hb
     · exact bf_trans hb (h1 x hx)
   · rename_i hb
     refine List.pairwise_cons.2 ⟨fun x hx => ?_, srt_ins a h2 fun x hx => hn x (List.mem_cons_of_mem _ hx)⟩
     rcases mem_ins.1 hx with rfl | hx
     · rcases bf_total (hn y List.mem_cons_self) with h3 | h3
       · exact h3
       · exact absurd h3 hb
     · exact h1 x hx
theorem srt_pt {l : List (List UInt8 × α)} (h : Srt l) (n : List UInt8) (a : α) : Srt (pt n a l) := srt_ins a (srt_rm h n) fun _ hx => (mem_rm.1 hx).2
theorem gt_none {n : List UInt8} {l : List (List UInt8 × α)} (h : gt n l = none) : ∀ x ∈ l, x.1 ≠ n := by
 intro x hx e
 unfold gt at h
 have := List.find?_eq_none.1 (Option.map_eq_none_iff.1 h) x hx
 simp [e] at this
theorem gt_some {n : List UInt8} {l : List (List UInt8 × α)} {a : α} (h : gt n l = some a) : (n, a) ∈ l := by
 unfold gt at h
 obtain ⟨x, hx, rfl⟩ := Option.map_eq_some_iff.1 h
 have h1 := List.find?_some hx
 have : x.1 = n := by simpa using h1
 subst this
 exact List.mem_of_find?_eq_some hx
theorem ne_one {l : List (List UInt8 × α)} (hp : l.Pairwise fun x y => x.1 ≠ y.1) {x y : List UInt8 × α} (hx : x ∈ l) (hy : y ∈ l) (e : x.1 = y.1) : x = y := by
 induction l with
 | nil => cases hx
 | cons z r ih =>
   obtain ⟨h1, h2⟩ := List.pairwise_cons.1 hp
   rcases List.mem_cons.1 hx with hx' | hx' <;> rcases List.mem_cons.1 hy with hy' | hy'
   · rw [hx', hy']
   · exact absurd (hx' ▸ e) (h1 y hy')
   · exact absurd (hy' ▸ e.symm) (h1 x hx')
   · exact ih h2 hx' hy'
theorem gt_mem {n : List UInt8} {l : List (List UInt8 × α)} {a : α} (hs : Srt l) (h : (n, a) ∈ l) : gt n l = some a := by
 cases e : gt n l with
 | none => exact absurd rfl (gt_none e _ h)
 | some b =>
   have h3 := ne_one (srt_ne hs) h (gt_some e) rfl
   injection h3 with _ h3
   rw [h3]
theorem gt_of {n : List UInt8} {l : List (List UInt8 × α)} (h : ∀ x ∈ l, x.1 ≠ n) : gt n l = none := by
 cases e : gt n l with
 | none => rfl
 | some b => exact absurd rfl (h _ (gt_some e))
theorem rm_none {n : List UInt8} {l : List (List UInt8 × α)} (h : gt n l = none) : rm n l = l := by
 unfold rm
 exact List.filter_eq_self.2 fun x hx => by simpa using gt_none h x hx
def mp (f : α → β) (l : List (List UInt8 × α)) : List (List UInt8 × β) := l.map fun x => (x.1, f x.2)
theorem srt_mp {f : α → β} {l : List (List UInt8 × α)} : Srt (mp f l) ↔ Srt l := by unfold Srt mp; rw [List.pairwise_map]
theorem mp_rm (f : α → β) (n : List UInt8) (l : List (List UInt8 × α)) : rm n (mp f l) = mp f (rm n l) := by unfold rm mp; rw [List.filter_map]; rfl
theorem mp_ins (f : α → β) (n : List UInt8) (a : α) : ∀ l : List (List UInt8 × α), ins n (f a) (mp f l) = mp f (ins n a l)
 | [] => rfl
 | y :: r => by
   show (if bf n y.1 then (n, f a) :: (y.1, f y.2) :: mp f r else (y.1, f y.2) :: ins n (f a) (mp f r)) = mp f (if bf n y.1 then (n, a) :: y :: r else y :: ins n a r)
   split
   · rfl
   · rw [mp_ins f n a r]; rfl
theorem mp_pt (f : α → β) (n : List UInt8) (a : α) (l : List (List UInt8 × α)) : pt n (f a) (mp f l) = mp f (pt n a l) := by unfold pt; rw [mp_rm, mp_ins]
theorem mp_gt (f : α → β) (n : List UInt8) (l : List (List UInt8 × α)) : gt n (mp f l) = (gt n l).map f := by
 unfold gt mp
 rw [List.find?_map]
 cases h : l.find? ((fun x => x.1 == n) ∘ fun x : List UInt8 × α => (x.1, f x.2)) with
 | none =>
   have : l.find? (fun x => x.1 == n) = none := h
   rw [this]; rfl
 | some y =>
   have : l.find? (fun x => x.1 == n) = some y := h
   rw [this]; rfl
def dm (l : List (List UInt8 × Value)) : DataW Value := .map (l.map fun x => (.string x.1, .held x.2))
theorem dm_size (l : List (List UInt8 × Value)) : size (dm l) = l.length := by simp [dm, Maps.size]
theorem dm_keys (l : List (List UInt8 × Value)) : strKeys (dm l) = l.map (·.1) := by
 show (l.map fun x => ((.string x.1, .held x.2) : Lit × DataW Value)).map (fun p => strOf p.1) = _
 rw [List.map_map]; rfl
theorem dm_has (n : List UInt8) (l : List (List UInt8 × Value)) : has (dm l) (.string n) = (gt n l).isSome := by
 show (l.map fun x => ((.string x.1, .held x.2) : Lit × DataW Value)).any (fun p => p.1.sameKey (.string n)) = _
 rw [List.any_map]
 cases h : gt n l with
 | none => exact List.any_eq_false.2 fun x hx => by simpa [Lit.sameKey] using gt_none h x hx
 | some a => exact List.any_eq_true.2 ⟨_, gt_some h, by simp [Lit.sameKey]⟩
theorem dm_at (n : List UInt8) (l : List (List UInt8 × Value)) (z : DataW Value) : (dm l).atKey (.string n) z = match gt n l with | some v => .held v | none => z := by
 unfold dm DataW.atKey gt
 simp only []
 rw [List.find?_map]
 have e : (fun p : Lit × DataW Value => p.1.sameKey (.string n)) ∘ (fun x : List UInt8 × Value => (.string x.1, .held x.2)) = fun x => x.1 == n := by funext x; rfl
 rw [e]
 cases l.find? (fun x => x.1 == n) <;> rfl
theorem nk_dm (n : List UInt8) : (notKey (.string n) ∘ fun x : List UInt8 × Value => ((.string x.1, .held x.2) : Lit × DataW Value)) = fun x => x.1 != n := by funext x; rfl
theorem dm_del (n : List UInt8) (l : List (List UInt8 × Value)) : (dm l).del (.string n) = dm (rm n l) := by
 unfold dm
 rw [DataW.del_eq]
 unfold delKey rm
 rw [List.filter_map, nk_dm]
theorem dm_ins (n : List UInt8) (v : Value) : ∀ l : List (List UInt8 × Value), DataW.insert ((.string n, .held v) : Lit × DataW Value) (l.map fun x => (.string x.1, .held x.2)) = (ins n v l).map fun x => (.string x.1, .held x.2)
 | [] => rfl
 | y :: r => by
   show (if bf n y.1 then _ else _) = _
   unfold ins
   split
   · rfl
   · rw [List.map_cons, ← dm_ins n v r]
theorem dm_put (n : List UInt8) (v : Value) (l : List (List UInt8 × Value)) : (dm l).put (.string n) (.held v) = dm (pt n v l) := by
 unfold dm
 rw [DataW.put_eq]
 unfold putKey pt rm
 rw [List.filter_map, nk_dm, dm_ins]
end
def tk (x : List UInt8 × List UInt8) : Nat := x.1.length + x.2.length + 16
def us (l : List (List UInt8 × List UInt8)) : Nat := (l.map tk).sum
theorem us_perm {l l' : List (List UInt8 × List UInt8)} (h : l.Perm l') : us l = us l' := (h.map tk).sum_nat
theorem us_ins (n s : List UInt8) (l : List (List UInt8 × List UInt8)) : us (ins n s l) = n.length + s.length + 16 + us l := by rw [us_perm (ins_perm n s l)]; rfl
theorem us_pt (n s : List UInt8) (l : List (List UInt8 × List UInt8)) : us (pt n s l) = n.length + s.length + 16 + us (rm n l) := us_ins n s _
theorem us_rm (n : List UInt8) : ∀ {l : List (List UInt8 × List UInt8)}, Srt l → us l = us (rm n l) + match gt n l with | some s => n.length + s.length + 16 | none => 0
 | [], _ => rfl
 | y :: r, h => by
   obtain ⟨h1, h2⟩ := List.pairwise_cons.1 (srt_ne h)
   have ih := us_rm n (l := r) (List.pairwise_cons.1 h).2
   by_cases e : y.1 = n
   · have hg : gt n r = none := gt_of fun x hx => fun q => h1 x hx (e.trans q.symm)
     have e1 : rm n (y :: r) = rm n r := by simp [rm, e]
     have e2 : gt n (y :: r) = some y.2 := by simp [gt, e]
     rw [hg] at ih
     rw [e1, e2]
     have ih' : us r = us (rm n r) + 0 := ih
     show tk y + us r = us (rm n r) + (n.length + y.2.length + 16)
     unfold tk
     rw [e]; omega
   · have e1 : rm n (y :: r) = y :: rm n r := by simp [rm, e]
     have e2 : gt n (y :: r) = gt n r := by simp [gt, e]
     rw [e1, e2]
     show tk y + us r = tk y + us (rm n r) + _
     omega
theorem us_len : ∀ l : List (List UInt8 × List UInt8), l.length * 16 ≤ us l
 | [] => Nat.le_refl _
 | y :: r => by
   have := us_len r
   show (r.length + 1) * 16 ≤ tk y + us r
   unfold tk; omega
theorem us_mem {l : List (List UInt8 × List UInt8)} {x : List UInt8 × List UInt8} (h : x ∈ l) : tk x ≤ us l := by
 induction l with
 | nil => cases h
 | cons y r ih =>
   show tk x ≤ tk y + us r
   rcases List.mem_cons.1 h with rfl | h
   · omega
   · have := ih h; omega
theorem us_sublist {α : Type} {E E' : List (List UInt8 × (List UInt8 × α))} (h : E'.Sublist E) : us (mp (·.1) E') ≤ us (mp (·.1) E) := by
 induction h with
 | slnil => exact Nat.le_refl _
 | @cons l l' a _ ih =>
   show us (mp (·.1) l) ≤ tk (a.1, a.2.1) + us (mp (·.1) l')
   omega
 | @cons_cons l l' a _ ih =>
   show tk (a.1, a.2.1) + us (mp (·.1) l) ≤ tk (a.1, a.2.1) + us (mp (·.1) l')
   omega
end Go.Proofs.YtchmepalhldpcaaGreatDoor.Dk
namespace Go.Proofs.YtchmepalhldpcaaGreatDoor.Dk
open Go.ChangeShapes Go.WideShapes Go.ChangeAt Go.RowKit Go.ChangeMaps Go.Maps Go.MapKept Ov
def RV (v : Value) : Option (DataW Value × List MemPlace) := some (.held v, [])
theorem lawS : Keyed Tryz.prog 9 := string_keyed Tryz.underlying9
def Hd (w : World) (v : Value) (s : List UInt8) : Prop := ∃ p c, v = .slice p s.length c ∧ s.length ≤ c ∧ (s ≠ [] → ∃ b, p = some ⟨b, 0, none⟩ ∧ RowB w b s)
def lies (v : Value) (b : Nat) : Prop := ∃ n c, v = .slice (some ⟨b, 0, none⟩) (n + 1) c
theorem Hd.lies {w : World} {v : Value} {s : List UInt8} {b : Nat} (h : Hd w v s) (k : lies v b) : RowB w b s ∧ s ≠ [] := by
 obtain ⟨p, c, rfl, _, h⟩ := h
 obtain ⟨n, c', e⟩ := k
 injection e with e1 e2 e3
 have hs : s ≠ [] := fun e => by rw [e] at e2; cases e2
 obtain ⟨b', e4, hr⟩ := h hs
 rw [e4] at e1
 injection e1 with e1; injection e1 with e1
 subst e1
 exact ⟨hr, hs⟩
theorem Hd.of_ne {w : World} {v : Value} {s : List UInt8} (h : Hd w v s) (hs : s ≠ []) : ∃ b c, v = .slice (some ⟨b, 0, none⟩) s.length c ∧ s.length ≤ c ∧ RowB w b s ∧ Dk.lies v b := by
 obtain ⟨p, c, rfl, hc, h⟩ := h
 obtain ⟨b, rfl, hr⟩ := h hs
 have := List.length_pos_iff.2 hs
 exact ⟨b, c, rfl, hc, hr, s.length - 1, c, by rw [show s.length - 1 + 1 = s.length by omega]⟩
theorem Hd.kp {w w' : World} {O : Nat → Prop} {v : Value} {s : List UInt8} (h : Hd w v s) (k : Kp O w w') (hO : ∀ b, Dk.lies v b → ¬ O b) : Hd w' v s := by
 by_cases hs : s = []
 · obtain ⟨p, c, e, hc, _⟩ := h
   exact ⟨p, c, e, hc, fun q => absurd hs q⟩
 · obtain ⟨b, c, rfl, hc, hr, hl⟩ := h.of_ne hs
   exact ⟨_, c, rfl, hc, fun _ => ⟨b, rfl, hr.kp k fun _ => hO b hl⟩⟩
theorem Hd.lt {w : World} {v : Value} {s : List UInt8} {b : Nat} (h : Hd w v s) (k : Dk.lies v b) : b < w.heap.size := (h.lies k).1.lt (h.lies k).2
abbrev Et : Type := List UInt8 × (List UInt8 × Value)
structure Dk (w : World) (O : Nat → Prop) (d m sz : Nat) (E : List Et) : Prop where
 h : Blk w d [.int .i64 (sz : Int), .map (some m)]
 o : w.ownsMap Tryz.prog 9 RV m E.length (dm (mp (·.2) E))
 e : ∀ x ∈ E, Hd w x.2.2 x.2.1
 od : O d
 om : O m
 oe : ∀ x ∈ E, ∀ b, lies x.2.2 b → O b
 p : E.Pairwise fun x y => ∀ b, lies x.2.2 b → ¬ lies y.2.2 b
 s : Srt E
 u : us (mp (·.1) E) ≤ sz
 z : sz ≤ 4194304
 n : ∀ x ∈ E, x.1 ≠ [] ∧ x.1.length ≤ 64
 lt : ∀ b, O b → b < w.heap.size
section
variable {w w' : World} {O O' : Nat → Prop} {d m sz : Nat} {E : List Et}
theorem owns_kp {P : Program} {k : TypeId} {R : Value → Option (DataW Value × List MemPlace)} {n : Nat} {D : DataW Value} (h : w.ownsMap P k R m n D) (k' : Kp O w w') (hO : ¬ O m) : w'.ownsMap P k R m n D := by
 have hlt := h.lt
 obtain ⟨es, clock, hb, r⟩ := h
 exact ⟨es, clock, (k'.block m hlt hO).trans hb, r⟩
theorem Dk.kp (h : Dk w O d m sz E) (k : Kp O' w w') (hO : ∀ b, O b → ¬ O' b) : Dk w' O d m sz E :=
 ⟨h.h.kp k (hO d h.od), owns_kp h.o k (hO m h.om), fun x hx => (h.e x hx).kp k fun b hb => hO b (h.oe x hx b hb), h.od, h.om, h.oe, h.p, h.s, h.u, h.z, h.n, fun b hb => Nat.lt_of_lt_of_le (h.lt b hb) k.size⟩
theorem Dk.next (h : Dk w O d m sz E) (k : Below w.heap.size w w') : Dk w' O d m sz E := h.kp (Below.kp (fun _ => False) k) fun _ _ h => h
theorem Dk.len (h : Dk w O d m sz E) : E.length ≤ 262144 := by
 have h1 := us_len (mp (·.1) E)
 have h2 := h.u; have h3 := h.z
 rw [show (mp (·.1) E).length = E.length by simp [mp]] at h1
 omega
theorem Dk.sL (h : Dk w O d m sz E) : Srt (mp (·.1) E) := srt_mp.2 h.s
theorem look_of {n : List UInt8} {v : Value} {ps : List MemPlace} (hv : RV v = some ((dm (mp (·.2) E)).atKey (.string n) (.held (.slice none 0 0)), ps)) :
 (gt n E = none ∧ v = .slice none 0 0) ∨ ∃ s, gt n E = some (s, v) := by
 rw [dm_at, mp_gt] at hv
 unfold RV at hv
 injection hv with hv; injection hv with hv
 cases e : gt n E with
 | none => rw [e] at hv; injection hv with hv; exact .inl ⟨rfl, hv⟩
 | some y => rw [e] at hv; injection hv with hv; exact .inr ⟨y.1, by rw [hv]⟩
theorem gt_L {n : List UInt8} : gt n (mp (·.1) E) = (gt n E).map (·.1) := mp_gt _ _ _
end
theorem key_s (s : ByteArray) (h : s.size ≤ maxLen) : keyOf Tryz.prog 9 (.string s) = some (.string s.data.toList) := WideMaps.keyOf_string_mk Tryz.underlying9 h
theorem run_zeroB (w : World) : (zeroValue 67).run Tryz.prog w = .ok (.slice none 0 0) w := by kernel_rfl
def IsD (w : World) (O : Nat → Prop) (d sz : Nat) (L : List (List UInt8 × List UInt8)) : Prop := ∃ m E, Dk w O d m sz E ∧ mp (·.1) E = L
theorem IsD.next {w w' : World} {O : Nat → Prop} {d sz : Nat} {L : List (List UInt8 × List UInt8)} (h : IsD w O d sz L) (k : Below w.heap.size w w') : IsD w' O d sz L := by
 obtain ⟨m, E, h, e⟩ := h; exact ⟨m, E, h.next k, e⟩
theorem IsD.lt {w : World} {O : Nat → Prop} {d sz : Nat} {L : List (List UInt8 × List UInt8)} (h : IsD w O d sz L) : ∀ b, O b → b < w.heap.size := by
 obtain ⟨m, E, h, e⟩ := h; exact h.lt
def TurnsTo (O : Nat → Prop) (d sz : Nat) (L : List (List UInt8 × List UInt8)) (w w' : World) : Prop := ∃ O', IsD w' O' d sz L ∧ Kp O w w' ∧ ∀ b, O' b → O b ∨ w.heap.size ≤ b
theorem IsD.stays {w w' : World} {O : Nat → Prop} {d sz : Nat} {L : List (List UInt8 × List UInt8)} (h : IsD w O d sz L) (k : Below w.heap.size w w') : TurnsTo O d sz L w w' := ⟨O, h.next k, Below.kp O k, fun _ => .inl⟩
end Go.Proofs.YtchmepalhldpcaaGreatDoor.Dk
namespace Go.Proofs.YtchmepalhldpcaaGreatDoor.Dk
open Go.ChangeShapes Go.WideShapes Go.ChangeAt Go.RowKit Go.Maps Ov
def nO (w : World) (b : Nat) : Prop := b = w.heap.size ∨ b = w.heap.size + 1
theorem made_disk (w : World) (sz : Nat) (hz : sz ≤ 4194304) : IsD ((w.alloc (.map #[] 0)).alloc (.cells #[.int .i64 (sz : Int), .map (some w.heap.size)] 55)) (nO w) (w.heap.size + 1) sz [] := by
 have hm := ((World.ownsMap_made w Tryz.prog 9 RV).alloc (.cells #[.int .i64 (sz : Int), .map (some w.heap.size)] 55))
 exact ⟨w.heap.size, [], ⟨Blk.made (w.alloc (.map #[] 0)) 55 [.int .i64 (sz : Int), .map (some w.heap.size)] (by simp), hm, (fun x hx => by cases hx), .inr rfl, .inl rfl, (fun x hx => by cases hx), .nil, .nil, Nat.zero_le _, hz, (fun x hx => by cases hx), fun b hb => by
  rcases hb with rfl | rfl <;> simp <;> omega⟩, rfl⟩
set_option maxHeartbeats 1000000 in
theorem new_yes (sz : Nat) (hz : sz ≤ 4194304) (w : World) : Calls Tryz.prog 8 #[.int .i64 (sz : Int)] w fun e w' => e = .returned (.tuple #[.pointer (some ⟨w.heap.size + 1, 0, none⟩), .int .i64 0]) ∧ IsD w' (nO w) (w.heap.size + 1) sz [] ∧ Below w.heap.size w w' := by
 have HD := Lib.hid (made_disk w sz hz)
 have HB := Lib.hid (box2 w (.map #[] 0) (.cells #[.int .i64 (sz : Int), .map (some w.heap.size)] 55))
 have hmm := @run_makeMap Tryz.prog
 have t1 : decide ((sz : Int) < 0) = false := decide_eq_false (by omega)
 have t2 : decide ((4194304 : Int) < (sz : Int)) = false := decide_eq_false (by omega)
 go_enter Tryz.func8, Tryz.ntmps8
 go_wp2_with (fail)
 go_ret2
 exact ⟨rfl, HD.out, HB.out⟩
set_option maxHeartbeats 1000000 in
theorem takes_any (n : ByteArray) (k : Nat) (w : World) (hn : n.size ≤ 4611686018427387904) (hk : k ≤ 2305843009213693952) : Calls Tryz.prog 36 #[.string n, .int .i64 (k : Int)] w fun e w' => e = .returned (.int .i64 ((n.size + k + 16 : Nat) : Int)) ∧ w' = w := by
 go_enter Tryz.func36, Tryz.ntmps36
 go_wp2_with (fail)
 go_ret
 refine ⟨?_, rfl⟩
 first | rfl | (refine ret_int ?_; omega)
def lft (left : Lit → Bool) (E : List Et) : List Et := E.filter fun x => left (.string x.1)
theorem lft_all {D : DataW Value} {E : List Et} (h : D = dm (mp (·.2) E)) : lft (has D) E = E := by
 subst h
 unfold lft
 refine List.filter_eq_self.2 fun x hx => ?_
 rw [dm_has, mp_gt]
 cases e : gt x.1 E with
 | none => exact absurd rfl (gt_none e x hx)
 | some y => rfl
theorem lft_none {left : Lit → Bool} (h : ∀ kl, left kl = false) (E : List Et) : lft left E = [] := by
 unfold lft; exact List.filter_eq_nil_iff.2 fun x _ => by rw [h]; exact Bool.false_ne_true
theorem lft_cut (left : Lit → Bool) (n : List UInt8) (E : List Et) : lft (fun z => left z && !z.sameKey (.string n)) E = rm n (lft left E) := by
 unfold lft rm
 rw [List.filter_filter]
 refine List.filter_congr fun x _ => ?_
 show (left (.string x.1) && !(x.1 == n)) = (x.1 != n && left (.string x.1))
 rw [Bool.and_comm]; rfl
theorem srt_lft {left : Lit → Bool} {E : List Et} (h : Srt E) : Srt (lft left E) := h.filter _
theorem lft_at {left : Lit → Bool} {E : List Et} {n : List UInt8} {y : List UInt8 × Value} (h : Srt E) (hl : left (.string n) = true) (hg : gt n E = some y) : gt n (lft left E) = some y :=
 gt_mem (srt_lft h) (List.mem_filter.2 ⟨gt_some hg, hl⟩)
theorem us_lft {left : Lit → Bool} {E : List Et} {n : List UInt8} {y : List UInt8 × Value} (h : Srt E) (hl : left (.string n) = true) (hg : gt n E = some y) :
 us (mp (·.1) (lft left E)) = us (mp (·.1) (lft (fun z => left z && !z.sameKey (.string n)) E)) + (n.length + y.1.length + 16) := by
 rw [lft_cut, us_rm n (srt_mp.2 (srt_lft h) : Srt (mp (·.1) (lft left E))), mp_rm, mp_gt, lft_at h hl hg]
 rfl
theorem us_sub (left : Lit → Bool) : ∀ E : List Et, ∃ q, us (mp (·.1) E) = q + us (mp (·.1) (lft left E))
 | [] => ⟨0, rfl⟩
 | y :: E => by
   obtain ⟨q, hq⟩ := us_sub left E
   by_cases h : left (.string y.1) = true
   · exact ⟨q, by
      rw [show lft left (y :: E) = y :: lft left E from List.filter_cons_of_pos h]
      show tk (y.1, y.2.1) + us (mp (·.1) E) = q + (tk (y.1, y.2.1) + us (mp (·.1) (lft left E)))
      rw [hq]; omega⟩
   · exact ⟨tk (y.1, y.2.1) + q, by
      rw [show lft left (y :: E) = lft left E from List.filter_cons_of_neg h]
      show tk (y.1, y.2.1) + us (mp (·.1) E) = _
      rw [hq]; omega⟩
theorem met_of {E : List Et} {n : List UInt8} {v : Value} {y : DataW Value × List MemPlace} (hv : RV v = some y) (hat : ∀ zd, (dm (mp (·.2) E)).atKey (.string n) zd = y.1) : ∃ s, gt n E = some (s, v) := by
 unfold RV at hv
 injection hv with hv; subst hv
 have h := hat (.lit (.bool true))
 rw [dm_at, mp_gt] at h
 cases e : gt n E with
 | none => rw [e] at h; cases h
 | some z => rw [e] at h; injection h with h; exact ⟨z.1, by rw [← h]⟩
set_option maxHeartbeats 4000000 in
set_option maxRecDepth 100000 in
theorem room_dk {O : Nat → Prop} {d m sz : Nat} {E : List Et} (w : World) (h : Dk w O d m sz E) :
 Calls Tryz.prog 35 #[.pointer (some ⟨d, 0, none⟩)] w (Gives (.int .i64 ((sz - us (mp (·.1) E) : Nat) : Int)) w) := by
 have c0 := h.h.c 0 _ rfl
 have c1 := h.h.c 1 _ rfl
 have ho := h.o
 have H := Lib.hid h
 clear h
 go_enter Tryz.func35, Tryz.ntmps35
 go_wp2_with (first
  | (at_range; refine wpList_range_own _ rfl _ 53 rfl 9 67 lawS Tryz.underlying53 RV m _ _ rfl ho ?_; intro w0 hrg0 hg0 hs0)
  | fail)
 go_frame
 have hB0 : Below w.heap.size w w0 := ⟨hg0.os, hg0.tape, hg0.output, hg0.size, fun k hk => hg0.block k hk (by simp)⟩
 have HB0 := Lib.hid hB0; have HRG0 := Lib.hid hrg0
 clear hB0 hrg0 hg0 hs0 c0 c1 ho
 obtain ⟨r, hr⟩ : ∃ r, w.heap.size = r := ⟨_, rfl⟩
 have HR := Lib.hid hr
 rw [hr] at HRG0 ⊢
 clear hr
 obtain ⟨n, hn⟩ : ∃ n, E.length = n := ⟨_, rfl⟩
 rw [hn] at HRG0
 clear hn
 go_loopw [3] (fun A wr => ∃ (left : Lit → Bool) (cnt a : Nat), wr.ranges Tryz.prog 9 RV m r n (dm (mp (·.2) E)) left cnt ∧ A = .int .i64 (a : Int) ∧ a + us (mp (·.1) E) = sz + us (mp (·.1) (lft left E)) ∧ Below w.heap.size w wr) (fun _ wr => wr.rangeLeft m r)
 case atStart =>
  exact ⟨_, _, sz, HRG0.out, rfl, by rw [lft_all rfl], HB0.out⟩
 case round =>
  obtain ⟨left, cnt, a, hrg, rfl, ha, hB⟩ := hrel
  have HRG := Lib.hid hrg; have HB := Lib.hid hB; have HA := Lib.hid ha
  clear hB ha
  go_wp2_with (first
   | (at_next; refine wpList_next_ranges _ rfl _ rfl 9 lawS RV encStr id (fun key kl hk => by obtain ⟨x, hx, _⟩ := Maps.keyOf_str Tryz.underlying9 hk; exact ⟨x, hx⟩) (fun v _ _ => ⟨v, rfl⟩) m r n _ _ _ rfl hrg ?_ ?_)
   | fail)
  · intro hc0 hl0
    have HE : Hid (a = sz - us (mp (·.1) E)) := Lib.hid (by
     have := HA.out
     rw [lft_none hl0] at this
     have h0 : us (mp (·.1) ([] : List Et)) = 0 := rfl
     rw [h0] at this
     omega)
    clear hrg hc0 hl0
    go_wp2_with (fail)
    go_ret
    exact ⟨by rw [HE.out]; rfl, HB.out⟩
  · intro x c kl yd yp w2 cnt2 hkey hlk hv hat hrg2 hlt hg2 hs2 hen
    obtain ⟨x', ex, rfl, _⟩ := Maps.keyOf_str Tryz.underlying9 hkey
    obtain rfl : x = x' := encStr_inj ex
    obtain ⟨s, hg⟩ := met_of hv hat
    have hE : Hd w c s := H.out.e _ (gt_some hg)
    obtain ⟨p, c', rfl, hsc, _⟩ := hE
    have hU := us_lft H.out.s hlk hg
    dsimp only at hU
    have hz := H.out.z; have hu := H.out.u
    have ha := HA.out
    have hmL : us (mp (·.1) (lft left E)) ≤ us (mp (·.1) E) := by
     obtain ⟨q, hq⟩ : ∃ q, us (mp (·.1) E) = q + us (mp (·.1) (lft left E)) := us_sub left E
     omega
    have HRG2 := Lib.hid hrg2
    have HB2 : Hid (Below w.heap.size w w2) := Lib.hid (HB.out.grown hg2 (by have := HB.out.size; omega) (fun k e => by cases e; rw [HR.out]; exact Nat.le_refl _))
    have HLT : Hid (cnt2 < wr.rangeLeft m r) := Lib.hid (by rw [HRG.out.left_eq]; exact hlt)
    obtain ⟨K, hK⟩ : ∃ K, (tx x).size + s.length + 16 = K := ⟨_, rfl⟩
    have hK2 : K = x.length + s.length + 16 := by rw [← hK, tx_size]
    obtain ⟨a', hA'⟩ : ∃ a', a = a' + K := ⟨a - K, by omega⟩
    subst hA'
    have hA1 : a' + K ≤ 4194304 := by omega
    have hs : s.length ≤ 4194304 := by omega
    have HA' : Hid (a' + us (mp (·.1) E) = sz + us (mp (·.1) (lft (fun z => left z && !z.sameKey (.string x)) E))) := Lib.hid (by omega)
    have ex2 : encStr x = .string (tx x) := rfl
    rw [ex2] at hen ⊢
    have hcall := takes_any (tx x) s.length w2 (by omega) (by omega)
    rw [hK] at hcall
    have HC := Lib.hid hcall
    change (Instr.entry (.pointer (some ⟨r, 0, none⟩))).run Tryz.prog w2 = .ok (.tuple #[.string (tx x), .slice p s.length c']) w2 at hen
    clear hcall hrg hkey hlk hv hat hg hU hz hu hmL hlt hg2 hs2 hrg2 hK hK2 hsc ex ex2 ha HRG HB HB0 HRG0 HA
    go_wp2_with (fail)
    refine HC.out.mono ?_
    rintro e w3 ⟨rfl, hw⟩
    obtain rfl : w2 = w3 := hw.symm
    clear hw
    go_wp2_with (fail)
    go_roundw
    case rel => exact ⟨_, cnt2, a', HRG2.out, by go_num, HA'.out, HB2.out⟩
    case measure => rw [HRG2.out.left_eq]; exact HLT.out
end Go.Proofs.YtchmepalhldpcaaGreatDoor.Dk
namespace Go.Proofs.YtchmepalhldpcaaGreatDoor.Dk
open Go.ChangeShapes Go.WideShapes Go.ChangeAt Go.RowKit Go.ChangeMaps Go.Maps Go.MapKept Ov
theorem run_convert_zero (w : World) (p : Option Addr) (c : Nat) : (convert 67 9 (.slice p 0 c)).run Tryz.prog w = .ok (.string ⟨#[]⟩) w := by
 rw [run_convert_bytes_string w 67 9 5 _ 0 c Tryz.underlying67 Tryz.underlying5 Tryz.underlying9]
 cases p <;> simp [Conv.bytesToString, loadCells]
 all_goals rfl
theorem Hd.run {w : World} {v : Value} {s : List UInt8} (h : Hd w v s) : (convert 67 9 v).run Tryz.prog w = .ok (.string (tx s)) w := by
 obtain ⟨p, c, rfl, hc, hr⟩ := h
 by_cases hs : s = []
 · subst hs
   exact run_convert_zero w p c
 · obtain ⟨b, rfl, hb⟩ := hr hs
   exact hb.text rfl
section
variable {w : World} {O : Nat → Prop} {d m sz : Nat} {E : List Et} {t : ByteArray}
set_option maxRecDepth 100000 in
theorem Dk.look_no (h : Dk w O d m sz E) (ht : t.size ≤ maxLen) (hg : gt t.data.toList E = none) : (Instr.lookup 53 (.map (some m)) (.string t) true).run Tryz.prog w = .ok (.tuple #[.slice none 0 0, .bool false]) w := by
 obtain ⟨v, ps, hrun, hv⟩ := h.o.look_ok lawS Tryz.underlying53 (run_zeroB w) (zd := .held (.slice none 0 0)) (zp := []) rfl (key_s t ht)
 rcases look_of hv with ⟨_, rfl⟩ | ⟨s, e⟩
 · rw [dm_has, mp_gt, hg] at hrun; exact hrun
 · rw [hg] at e; cases e
set_option maxRecDepth 100000 in
theorem Dk.look_yes (h : Dk w O d m sz E) (ht : t.size ≤ maxLen) {s : List UInt8} {v : Value} (hg : gt t.data.toList E = some (s, v)) : (Instr.lookup 53 (.map (some m)) (.string t) true).run Tryz.prog w = .ok (.tuple #[v, .bool true]) w := by
 obtain ⟨v', ps, hrun, hv⟩ := h.o.look_ok lawS Tryz.underlying53 (run_zeroB w) (zd := .held (.slice none 0 0)) (zp := []) rfl (key_s t ht)
 rcases look_of hv with ⟨e, _⟩ | ⟨s', e⟩
 · rw [hg] at e; cases e
 · rw [hg] at e; injection e with e; injection e with _ e; subst e
   rw [dm_has, mp_gt, hg] at hrun; exact hrun
end
def rdv (o : Option (List UInt8)) : Value := match o with | some s => .tuple #[.string (tx s), .int .i64 0] | none => .tuple #[.string ⟨#[]⟩, .int .i64 8]
set_option maxHeartbeats 2000000 in
theorem read_dk {O : Nat → Prop} {d m sz : Nat} {E : List Et} (t : ByteArray) (ht : t.size ≤ maxLen) (w : World) (h : Dk w O d m sz E) :
 Calls Tryz.prog 22 #[.pointer (some ⟨d, 0, none⟩), .string t] w (Gives (rdv (gt t.data.toList (mp (·.1) E))) w) := by
 have c1 := h.h.c 1 _ rfl
 rw [gt_L]
 cases hg : gt t.data.toList E with
 | none =>
   have hl := h.look_no ht hg
   clear h hg
   go_enter Tryz.func22, Tryz.ntmps22
   go_wp2_with (fail)
   go_ret2
   exact ⟨rfl, Below.refl _ _⟩
 | some y =>
   obtain ⟨s, v⟩ := y
   have hl := h.look_yes ht hg
   have hE : Hd w v s := h.e _ (gt_some hg)
   have hr := hE.run
   clear h hg hE
   show Calls _ _ _ _ (Gives (.tuple #[.string (tx s), .int .i64 0]) w)
   go_enter Tryz.func22, Tryz.ntmps22
   go_wp2_with (fail)
   go_ret2
   exact ⟨rfl, Below.refl _ _⟩
theorem read_any {O : Nat → Prop} {d sz : Nat} {L : List (List UInt8 × List UInt8)} (t : ByteArray) (ht : t.size ≤ maxLen) (w : World) (h : IsD w O d sz L) :
 Calls Tryz.prog 22 #[.pointer (some ⟨d, 0, none⟩), .string t] w (Gives (rdv (gt t.data.toList L)) w) := by
 obtain ⟨m, E, h, rfl⟩ := h
 exact read_dk t ht w h
theorem Kp.turned {w w' : World} {m : Nat} {O : Nat → Prop} (hO : O m) (h : w.mapTurned w' m) : Kp O w w' := by
 have g := h.grown
 exact ⟨g.os, g.tape, g.output, g.size, fun k hk hn => g.block k hk fun e => hn (by injection e with e; subst e; exact hO)⟩
theorem Dk.turned {w w' : World} {O : Nat → Prop} {d m sz : Nat} {E E' : List Et} (h : Dk w O d m sz E) (hk : Kp (fun b => b = m) w w') (ho : w'.ownsMap Tryz.prog 9 RV m E'.length (dm (mp (·.2) E'))) (hsub : E'.Sublist E) : Dk w' O d m sz E' := by
 have hdm : d ≠ m := fun e => by
  obtain ⟨es, clock, hb, _⟩ := h.o
  have := h.h.c 0 _ rfl
  rw [e] at this
  unfold World.cell? at this
  rw [hb] at this
  cases this
 have hm : ∀ v s b, Hd w v s → lies v b → b ≠ m := fun v s b hv hl e => by
  obtain ⟨es, clock, hb, _⟩ := h.o
  obtain ⟨x, h0⟩ : ∃ x, w.cell? ⟨b, 0, none⟩ = some (.int .u8 x) := ⟨_, (hv.lies hl).1.cell 0 (List.length_pos_iff.2 (hv.lies hl).2)⟩
  rw [e] at h0
  unfold World.cell? at h0
  rw [hb] at h0
  cases h0
 refine ⟨h.h.kp hk hdm, ho, fun x hx => (h.e x (hsub.subset hx)).kp hk fun b hb => hm _ _ b (h.e x (hsub.subset hx)) hb, h.od, h.om, fun x hx => h.oe x (hsub.subset hx), h.p.sublist hsub, h.s.sublist hsub, Nat.le_trans (us_sublist hsub) h.u, h.z, fun x hx => h.n x (hsub.subset hx), fun b hb => Nat.lt_of_lt_of_le (h.lt b hb) hk.size⟩
theorem owns_len {w : World} {m n : Nat} {E : List Et} (h : w.ownsMap Tryz.prog 9 RV m n (dm (mp (·.2) E))) : w.ownsMap Tryz.prog 9 RV m E.length (dm (mp (·.2) E)) := by
 obtain ⟨es, clock, hb, F, hs, hD⟩ := h
 refine ⟨es, clock, hb, F, ?_, hD⟩
 have h1 : size (dm (mp (·.2) E)) = E.length := by rw [dm_size]; simp [mp]
 rw [hD] at h1
 have h2 : size (DataW.map ((es.toList.map (WideElems.rg Tryz.prog 9 RV)).foldr DataW.insert [])) = es.size := by simp [Maps.size, length_sorted]
 omega
set_option maxRecDepth 100000 in
set_option maxHeartbeats 2000000 in
theorem delete_any {O : Nat → Prop} {d sz : Nat} {L : List (List UInt8 × List UInt8)} (t : ByteArray) (ht : t.size ≤ maxLen) (w : World) (h : IsD w O d sz L) :
 Calls Tryz.prog 38 #[.pointer (some ⟨d, 0, none⟩), .string t] w fun e w' => e = .returned (.int .i64 (if (gt t.data.toList L).isSome then 0 else 8)) ∧ TurnsTo O d sz (rm t.data.toList L) w w' := by
 have HI := Lib.hid h
 obtain ⟨m, E, h, rfl⟩ := h
 have c1 := h.h.c 1 _ rfl
 rw [gt_L]
 cases hg : gt t.data.toList E with
 | none =>
   have hl := h.look_no ht hg
   have hr : rm t.data.toList (mp (·.1) E) = mp (·.1) E := rm_none (by rw [gt_L, hg]; rfl)
   rw [hr]
   clear h hg hr
   go_enter Tryz.func38, Tryz.ntmps38
   go_wp2_with (fail)
   go_ret
   exact ⟨rfl, HI.out.stays (Below.refl _ _)⟩
 | some y =>
   obtain ⟨s, v⟩ := y
   have hl := h.look_yes ht hg
   have ho := h.o
   have hkey := key_s t ht
   have H := Lib.hid h
   clear h hg ht
   go_enter Tryz.func38, Tryz.ntmps38
   go_wp2_with (first
    | (at_delete; refine wpList_delete_own _ rfl _ _ 53 9 rfl 67 lawS Tryz.underlying53 RV m _ _ rfl ho _ _ rfl hkey ?_; intro w1 hown1 hturn1)
    | fail)
   have HT := Lib.hid hturn1; have HO := Lib.hid hown1
   clear hturn1 hown1 ho hl c1
   go_wp2_with (fail)
   go_ret
   refine ⟨rfl, O, ⟨m, rm t.data.toList E, H.out.turned (Kp.turned rfl HT.out) ?_ List.filter_sublist, by rw [mp_rm]⟩, Kp.turned H.out.om HT.out, fun _ => .inl⟩
   have := HO.out
   rw [dm_del, mp_rm] at this
   exact owns_len this
def rd (i : Int) (k : Nat) : Nat := (i % (k : Int)).toNat
def sp (i : Int) (y : UInt8) (s : List UInt8) : List UInt8 := s.set (rd i s.length) (s.getD (rd i s.length) 0 ^^^ y)
theorem TurnsTo.over {w w1 w2 : World} {O : Nat → Prop} {d sz : Nat} {L : List (List UInt8 × List UInt8)} (h : TurnsTo O d sz L w1 w2) (k : Below w.heap.size w w1) : TurnsTo O d sz L w w2 := by
 obtain ⟨O', h1, h2, h3⟩ := h
 exact ⟨O', h1, (Below.kp O k).trans h2 fun _ => .inl, fun b hb => (h3 b hb).imp id fun h => Nat.le_trans k.size h⟩
theorem TurnsTo.next {w w1 w2 : World} {O : Nat → Prop} {d sz : Nat} {L : List (List UInt8 × List UInt8)} (h : TurnsTo O d sz L w w1) (k : Below w1.heap.size w1 w2) : TurnsTo O d sz L w w2 := by
 obtain ⟨O', h1, h2, h3⟩ := h
 exact ⟨O', h1.next k, h2.next k, h3⟩
theorem TurnsTo.below {w w1 w2 : World} {O : Nat → Prop} {d sz : Nat} {L : List (List UInt8 × List UInt8)} (h : TurnsTo O d sz L w1 w2) (k : Below w.heap.size w w1) (hO : ∀ b, O b → w.heap.size ≤ b) : Below w.heap.size w w2 := by
 obtain ⟨O', _, h2, _⟩ := h
 exact k.trans (h2.below hO k.size)
theorem nO_lo {w : World} {b : Nat} (h : nO w b) : w.heap.size ≤ b := by unfold nO at h; omega
end Go.Proofs.YtchmepalhldpcaaGreatDoor.Dk
namespace Go.Proofs.YtchmepalhldpcaaGreatDoor.Fr
open Go.ChangeShapes Go.WideShapes Go.ChangeAt Go.RowKit Go.Shelf Go.Sort Ov
def cmpRen : Ren := ⟨fun | 122 => 54 | 215 => 80 | n => n, fun | 3 => 3 | 4 => 4 | 5 => 5 | n => n, fun n => n⟩
theorem cmpLays : Lays.n122 Tryz.prog cmpRen :=
 { mixed := by kernel_rfl
   f122 := by kernel_rfl
   f215 := by kernel_rfl
   t3 := by kernel_rfl
   a3 := fun _ => by kernel_rfl
   z3 := fun _ => by kernel_rfl
   v3 := fun _ => by kernel_rfl
   t4 := by kernel_rfl
   a4 := fun _ => by kernel_rfl
   z4 := fun _ => by kernel_rfl
   v4 := fun _ => by kernel_rfl }
theorem cmp_any (x y : Int) (w : World) : Calls Tryz.prog 54 #[.int .i64 x, .int .i64 y] w fun e w' => e = .returned (.int .i64 (Lib.compareInt x y)) ∧ w' = w :=
 Any.cmp_Compare_int cmpLays x y w
def srtRen : Ren := ⟨fun | 6 => 26 | 14 => 52 | 15 => 53 | 20 => 70 | 21 => 71 | 22 => 72 | 23 => 73 | 24 => 74 | 25 => 75 | 26 => 76 | 27 => 77 | 28 => 78 | 29 => 79 | 46 => 92 | 47 => 93 | 48 => 94 | 49 => 95 | 50 => 96 | 57 => 113 | n => n, fun | 0 => 0 | 3 => 3 | 4 => 4 | 5 => 5 | 9 => 9 | 22 => 35 | 24 => 26 | 25 => 66 | 39 => 99 | 45 => 111 | 46 => 112 | 50 => 116 | 53 => 119 | 55 => 121 | 66 => 136 | 70 => 140 | 76 => 158 | 77 => 78 | n => n, fun n => n⟩
theorem srtLays : SlLaysF0.n6 Tryz.prog srtRen :=
 { mixed := by kernel_rfl
   f6 := ⟨Tryz.f26.name, by decide, Tryz.func26.trans (congrArg some (by kernel_rfl))⟩
   f14 := ⟨Tryz.f52.name, by decide, Tryz.func52.trans (congrArg some (by kernel_rfl))⟩
   f15 := Tryz.func53.trans (congrArg some (by kernel_rfl))
   f20 := ⟨Tryz.f70.name, by decide, Tryz.func70.trans (congrArg some (by kernel_rfl))⟩
   f21 := ⟨Tryz.f71.name, by decide, Tryz.func71.trans (congrArg some (by kernel_rfl))⟩
   f22 := ⟨Tryz.f72.name, by decide, Tryz.func72.trans (congrArg some (by kernel_rfl))⟩
   f23 := ⟨Tryz.f73.name, by decide, Tryz.func73.trans (congrArg some (by kernel_rfl))⟩
   f24 := ⟨Tryz.f74.name, by decide, Tryz.func74.trans (congrArg some (by kernel_rfl))⟩
   f25 := ⟨Tryz.f75.name, by decide, Tryz.func75.trans (congrArg some (by kernel_rfl))⟩
   f26 := ⟨Tryz.f76.name, by decide, Tryz.func76.trans (congrArg some (by kernel_rfl))⟩
   f27 := ⟨Tryz.f77.name, by decide, Tryz.func77.trans (congrArg some (by kernel_rfl))⟩
   f28 := Tryz.func78.trans (congrArg some (by kernel_rfl))
   f29 := Tryz.func79.trans (congrArg some (by kernel_rfl))
   f46 := ⟨Tryz.f92.name, by decide, Tryz.func92.trans (congrArg some (by kernel_rfl))⟩
   f47 := Tryz.func93.trans (congrArg some (by kernel_rfl))
   f48 := Tryz.func94.trans (congrArg some (by kernel_rfl))
   f49 := ⟨Tryz.f95.name, by decide, Tryz.func95.trans (congrArg some (by kernel_rfl))⟩
   f50 := ⟨Tryz.f96.name, by decide, Tryz.func96.trans (congrArg some (by kernel_rfl))⟩
   f57 := ⟨Tryz.f113.name, by decide, Tryz.func113.trans (congrArg some (by kernel_rfl))⟩
   t0 := by kernel_rfl
   a0 := fun _ => by kernel_rfl
   z0 := fun _ => by kernel_rfl
   v0 := fun _ => by kernel_rfl
   t3 := by kernel_rfl
   a3 := fun _ => by kernel_rfl
   z3 := fun _ => by kernel_rfl
   v3 := fun _ => by kernel_rfl
   t4 := by kernel_rfl
   a4 := fun _ => by kernel_rfl
   z4 := fun _ => by kernel_rfl
   v4 := fun _ => by kernel_rfl
   t5 := by kernel_rfl
   a5 := fun _ => by kernel_rfl
   z5 := fun _ => by kernel_rfl
   v5 := fun _ => by kernel_rfl
   t9 := by kernel_rfl
   a9 := fun _ => by kernel_rfl
   z9 := fun _ => by kernel_rfl
   v9 := fun _ => by kernel_rfl
   t22 := by kernel_rfl
   a22 := fun _ => by kernel_rfl
   z22 := fun _ => by kernel_rfl
   v22 := fun _ => by kernel_rfl
   t25 := by kernel_rfl
   a25 := fun _ => by kernel_rfl
   z25 := fun _ => by kernel_rfl
   v25 := fun _ => by kernel_rfl
   t39 := by kernel_rfl
   a39 := fun _ => by kernel_rfl
   z39 := fun _ => by kernel_rfl
   v39 := fun _ => by kernel_rfl
   t45 := by kernel_rfl
   a45 := fun _ => by kernel_rfl
   z45 := fun _ => by kernel_rfl
   v45 := fun _ => by kernel_rfl
   t46 := by kernel_rfl
   a46 := fun _ => by kernel_rfl
   z46 := fun _ => by kernel_rfl
   v46 := fun _ => by kernel_rfl
   t50 := by kernel_rfl
   a50 := fun _ => by kernel_rfl
   z50 := fun _ => by kernel_rfl
   v50 := fun _ => by kernel_rfl
   t53 := by kernel_rfl
   a53 := fun _ => by kernel_rfl
   z53 := fun _ => by kernel_rfl
   v53 := fun _ => by kernel_rfl
   t55 := by kernel_rfl
   a55 := fun _ => by kernel_rfl
   z55 := fun _ => by kernel_rfl
   v55 := fun _ => by kernel_rfl
   t66 := by kernel_rfl
   a66 := fun _ => by kernel_rfl
   z66 := fun _ => by kernel_rfl
   v66 := fun _ => by kernel_rfl
   t70 := by kernel_rfl
   a70 := fun _ => by kernel_rfl
   z70 := fun _ => by kernel_rfl
   v70 := fun _ => by kernel_rfl
   t76 := by kernel_rfl
   a76 := fun _ => by kernel_rfl
   z76 := fun _ => by kernel_rfl
   v76 := fun _ => by kernel_rfl
   t77 := by kernel_rfl
   a77 := fun _ => by kernel_rfl
   z77 := fun _ => by kernel_rfl
   v77 := fun _ => by kernel_rfl }
def encI (x : Fd) : List Value := [.int .i64 x.t, .int .i64 x.a, .int .i64 x.p, .int .i64 x.f]
theorem swo_cf : SWO (ltOf cf) where
 irrefl x := by unfold ltOf; rw [cf_self]; rfl
 trans x y z h1 h2 := by unfold ltOf at *; simp only [decide_eq_true_eq] at *; exact cf_trans h1 h2
 ntrans x y z h1 h2 := by
  unfold ltOf at *
  simp only [decide_eq_false_iff_not, Int.not_lt] at *
  have a1 : cf y x ≤ 0 := by rw [cf_flip]; omega
  have a2 : cf z y ≤ 0 := by rw [cf_flip]; omega
  have := (lx_trans (l := ns z) (m := ns y) (n := ns x) rfl rfl a2 a1).1
  have h3 : cf z x ≤ 0 := this
  rw [cf_flip] at h3; omega
theorem cf_part (x y : Fd) (h1 : ltOf cf x y = false) (h2 : ltOf cf y x = false) : x = y := by
 unfold ltOf at *
 simp only [decide_eq_false_iff_not, Int.not_lt] at *
 rw [cf_flip] at h2
 exact cf_zero (by omega)
end Go.Proofs.YtchmepalhldpcaaGreatDoor.Fr
namespace Go.Proofs.YtchmepalhldpcaaGreatDoor.Ov
open Go.ChangeShapes Go.WideShapes Go.ChangeAt Go.RowKit
section
variable {P : Program} {ops : Array Oper} {md : Region.Mode} {C : World → Prop}
end
theorem getD_any {listed : Array Bool} {i : Nat} (h : i < listed.size) (d e : Bool) : listed.getD i d = listed.getD i e := by simp [h]
def lack (listed : Array Bool) : Nat → Nat
 | 0 => 0
 | n + 1 => lack listed n + if listed.getD n true = true then 0 else 1
theorem lack_zero {listed : Array Bool} : ∀ {n : Nat}, lack listed n = 0 → ∀ i, i < n → listed.getD i true = true
 | 0, _, i, hi => absurd hi (Nat.not_lt_zero i)
 | n + 1, h, i, hi => by
   unfold lack at h
   split at h
   · rename_i e
     by_cases hn : i = n
     · rw [hn]; exact e
     · exact lack_zero (by omega) i (by omega)
   · omega
theorem lack_le (listed : Array Bool) (i : Nat) : ∀ n, n ≤ i → lack (listed.setIfInBounds i true) n = lack listed n
 | 0, _ => rfl
 | n + 1, h => by
   unfold lack
   rw [lack_le listed i n (by omega), getD_set_ne true (by omega)]
theorem lack_set {listed : Array Bool} {i : Nat} (hi : listed.getD i true = false) : ∀ n, i < n → lack (listed.setIfInBounds i true) n + 1 = lack listed n
 | 0, h => absurd h (Nat.not_lt_zero i)
 | n + 1, h => by
   have his : i < listed.size := by
    rcases Nat.lt_or_ge i listed.size with h | h
    · exact h
    · simp [Array.getElem?_eq_none h] at hi
   unfold lack
   by_cases e : i = n
   · subst e
     have : (listed.setIfInBounds i true).getD i true = true := by simp [his]
     rw [lack_le listed i i (Nat.le_refl _), hi, this]
     simp
   · rw [← lack_set hi n (by omega), getD_set_ne true e]
     omega
section
variable {P : Program} {ops : Array Oper} {md : Region.Mode}
def backB (md : Region.Mode) (ops : Array Oper) (n : Nat) : Bool :=
 (List.range n).all fun i => match ops[i]? with
   | some o => o.after.all fun e => !Region.binds md e || decide (e.on < i)
   | none => false
theorem back_spec {n i : Nat} (hb : backB md ops n = true) (hi : i < n) : ∃ o, ops[i]? = some o ∧ ∀ e ∈ o.after, Region.binds md e = true → e.on < i := by
 have h := List.all_eq_true.1 hb i (List.mem_range.2 hi)
 cases ho : ops[i]? with
 | none => rw [ho] at h; cases h
 | some o =>
   rw [ho] at h
   refine ⟨o, rfl, fun e he hbe => ?_⟩
   have := Array.all_eq_true'.1 h e he
   simpa [hbe] using this
theorem live {n : Nat} {listed : Array Bool} (hb : backB md ops n = true) (hc : ∃ i, i < n ∧ listed.getD i true = false) : Region.ready md ops listed ≠ [] := by
 obtain ⟨i, hi, hu⟩ := hc
 induction i using Nat.strongRecOn with
 | _ i ih =>
   obtain ⟨o, ho, hall⟩ := back_spec hb hi
   by_cases h : ∀ e ∈ o.after, Region.binds md e = true → listed.getD e.on false = true
   · exact List.ne_nil_of_mem (mem_ready.2 ⟨hu, o, ho, h⟩)
   · simp only [Classical.not_forall] at h
     obtain ⟨e, he, hbe, hn⟩ := h
     have hlt := hall e he hbe
     have hls : i < listed.size := by
      rcases Nat.lt_or_ge i listed.size with h | h
      · exact h
      · simp [Array.getElem?_eq_none h] at hu
     exact ih e.on hlt (by omega) (getD_in (by omega) (by simpa using hn))
theorem lack_pos {listed : Array Bool} {n k : Nat} (h : lack listed n = k + 1) : ∃ i, i < n ∧ listed.getD i true = false := by
 induction n with
 | zero => cases h
 | succ n ih =>
   unfold lack at h
   cases e : listed.getD n true with
   | false => exact ⟨n, by omega, e⟩
   | true =>
     rw [e, if_pos rfl] at h
     obtain ⟨i, hi, hu⟩ := ih h
     exact ⟨i, by omega, hu⟩
theorem wpAny_inv {n g : Nat} {I : Array Bool → Act → World → Prop} {Q : Exit → Act → World → Prop} (hs : Region.sinkB md ops n = true) (hc : Region.chainB md ops n = true) (hb : backB md ops n = true) (hn : n < ops.size)
 (hstep : ∀ listed a w i, I listed a w → HeadInv md ops n listed → i ∈ Region.ready md ops listed → i < n → wpOp P ops Q i (fun a' w' => I (listed.setIfInBounds i true) a' w') a w)
 (hend : ∀ listed a w, I listed a w → HeadInv md ops n listed → (∀ i, i < n → listed.getD i true = true) → wpAny P md ops Q g listed a w) :
 ∀ (f : Nat) (listed : Array Bool) (a : Act) (w : World), lack listed n = f → HeadInv md ops n listed → I listed a w → wpAny P md ops Q (f + g) listed a w
 | 0, listed, a, w, hf, inv, h => by rw [Nat.zero_add]; exact hend listed a w h inv (lack_zero hf)
 | f + 1, listed, a, w, hf, inv, h => by
   rw [show f + 1 + g = (f + g) + 1 by omega]
   refine ⟨fun h0 => absurd h0 (live hb (lack_pos hf)), fun i hi => ?_⟩
   have hin : i < n := by
    obtain ⟨j, hj, hu⟩ := lack_pos hf
    exact Nat.lt_of_not_le fun h => tail_waits hs hc hn inv _ j rfl hj hu i h hi
   have hun := (mem_ready.1 hi).1
   have hl := lack_set hun n hin
   exact wpOp_mono (fun a' w' h' => wpAny_inv hs hc hb hn hstep hend f _ a' w' (by omega) (inv.set hi hin) h') (hstep listed a w i h inv hi hin)
end
def invB (md : Region.Mode) (ops : Array Oper) (n : Nat) : Bool :=
 decide (n < ops.size) && Region.sinkB md ops n && Region.chainB md ops n && backB md ops n && Region.seqB md ops (ops.size - n) n ((List.replicate n true ++ List.replicate (ops.size - n) false).toArray)
theorem wp_inv {P : Program} {id : Nat} {Q : Exit → Act → World → Prop} {a : Act} {w : World} {l : List Oper} (n : Nat) (I : Array Bool → Act → World → Prop) (hm : P.follows .mixedOrders = true) (hB : invB .any l.toArray n = true)
 (h0 : I (Array.replicate l.toArray.size false) a w.drew)
 (hstep : ∀ listed a w i, I listed a w → HeadInv .any l.toArray n listed → i ∈ Region.ready .any l.toArray listed → i < n → wpOp P l.toArray Q i (fun a' w' => I (listed.setIfInBounds i true) a' w') a w)
 (hend : ∀ listed a w, I listed a w → (∀ i, i < n → listed.getD i false = true) → wpList P l.toArray Q (l.drop n) a w) : (Code.region id l.toArray true).wp P Q a w := by
 simp only [invB, Bool.and_eq_true, decide_eq_true_eq] at hB
 obtain ⟨⟨⟨⟨hn, hs⟩, hc⟩, hb⟩, hseq⟩ := hB
 have inv0 : HeadInv .any l.toArray n (Array.replicate l.toArray.size false) :=
  ⟨by simp, fun j oj _ hl => (by rw [getD_replicate_false] at hl; cases hl), fun t _ ht => getD_in (by simpa using ht) (getD_replicate_false _ _)⟩
 have hdl : (l.drop n).length = l.toArray.size - n := by simp
 have hlk : ∀ k, k ≤ l.toArray.size → lack (Array.replicate l.toArray.size false) k = k := by
  intro k
  induction k with
  | zero => intro _; rfl
  | succ k ih =>
    intro hk
    unfold lack
    rw [ih (by omega), getD_in (by simp at hk ⊢; omega) (getD_replicate_false _ _), if_neg (by decide)]
 refine wp_region_any hm ?_
 have := wpAny_inv (P := P) (md := .any) (ops := l.toArray) (n := n) (g := l.toArray.size - n) (I := I) (Q := Q) hs hc hb hn hstep (fun listed a w hI inv hall => by
  have hF : listed = (List.replicate n true ++ List.replicate (l.toArray.size - n) false).toArray := by
   refine Array.ext (by rw [inv.size]; simp; simp at hn; omega) fun i h1 h2 => ?_
   by_cases hi : i < n
   · have := hall i hi
     simp [h1] at this
     simp [hi, this]
   · have := inv.tail i (by omega) (by rw [← inv.size]; exact h1)
     simp [h1] at this
     simp [List.getElem_append, hi, this]
  subst hF
  have h1 := wpAny_of_seq (md := .any) (Q' := Q) (P := P) (l.drop n) n _ a w (fun j => by simp [List.getElem?_drop]) (by rw [hdl]; exact hseq) (hend _ a w hI fun i hi => (getD_any (by simp; simp at hn; omega) false true).trans (hall i hi))
  rwa [hdl] at h1) (lack (Array.replicate l.toArray.size false) n) _ a w.drew rfl inv0 h0
 rw [hlk n (by omega), show n + (l.toArray.size - n) = l.toArray.size by omega] at this
 exact this
end Go.Proofs.YtchmepalhldpcaaGreatDoor.Ov
namespace Go.Proofs.YtchmepalhldpcaaGreatDoor.Ov
open Go.RowKit Go.Maps Go.Sort Go.Shelf Go.Proofs
def keysRen : Ren := ⟨fun | 7 => 49 | 10 => 66 | n => n, fun | 23 => 53 | 26 => 9 | 3 => 67 | 28 => 94 | 0 => 0 | 27 => 93 | 33 => 108 | 4 => 4 | n => n, fun n => n⟩
theorem keysLays : SlLaysZ.n7 Tryz.prog keysRen :=
 { mixed := by kernel_rfl
   f7 := ⟨Tryz.f49.name, by decide, Tryz.func49.trans (congrArg some (by kernel_rfl))⟩
   f10 := ⟨Tryz.f66.name, by decide, Tryz.func66.trans (congrArg some (by kernel_rfl))⟩
   t0 := by kernel_rfl
   a0 := fun _ => by kernel_rfl
   z0 := fun _ => by kernel_rfl
   v0 := fun _ => by kernel_rfl
   t4 := by kernel_rfl
   a4 := fun _ => by kernel_rfl
   z4 := fun _ => by kernel_rfl
   v4 := fun _ => by kernel_rfl
   t23 := by kernel_rfl
   a23 := fun _ => by kernel_rfl
   z23 := fun _ => by kernel_rfl
   v23 := fun _ => by kernel_rfl
   t26 := by kernel_rfl
   a26 := fun _ => by kernel_rfl
   z26 := fun _ => by kernel_rfl
   v26 := fun _ => by kernel_rfl
   t27 := by kernel_rfl
   a27 := fun _ => by kernel_rfl
   z27 := fun _ => by kernel_rfl
   v27 := fun _ => by kernel_rfl
   t28 := by kernel_rfl
   a28 := fun _ => by kernel_rfl
   z28 := fun _ => by kernel_rfl
   v28 := fun _ => by kernel_rfl
   t33 := by kernel_rfl
   a33 := fun _ => by kernel_rfl
   z33 := fun _ => by kernel_rfl
   v33 := fun _ => by kernel_rfl }
def sortedRen : Ren := ⟨fun | 6 => 48 | 8 => 64 | 9 => 65 | 11 => 85 | n => n, fun | 26 => 9 | 28 => 94 | 24 => 41 | 0 => 0 | 33 => 108 | n => n, fun n => n⟩
theorem sortedLays : SlLaysZ.n6 Tryz.prog sortedRen :=
 { mixed := by kernel_rfl
   f6 := ⟨Tryz.f48.name, by decide, Tryz.func48.trans (congrArg some (by kernel_rfl))⟩
   f8 := ⟨Tryz.f64.name, by decide, Tryz.func64.trans (congrArg some (by kernel_rfl))⟩
   f11 := ⟨Tryz.f85.name, by decide, Tryz.func85.trans (congrArg some (by kernel_rfl))⟩
   t0 := by kernel_rfl
   a0 := fun _ => by kernel_rfl
   z0 := fun _ => by kernel_rfl
   v0 := fun _ => by kernel_rfl
   t24 := by kernel_rfl
   a24 := fun _ => by kernel_rfl
   z24 := fun _ => by kernel_rfl
   v24 := fun _ => by kernel_rfl
   t26 := by kernel_rfl
   a26 := fun _ => by kernel_rfl
   z26 := fun _ => by kernel_rfl
   v26 := fun _ => by kernel_rfl
   t28 := by kernel_rfl
   a28 := fun _ => by kernel_rfl
   z28 := fun _ => by kernel_rfl
   v28 := fun _ => by kernel_rfl
   i26 := by kernel_rfl }
def sortRen : Ren := ⟨fun | 6 => 65 | 8 => 53 | 9 => 86 | 19 => 78 | 20 => 79 | 21 => 102 | 22 => 103 | 23 => 104 | 24 => 105 | 25 => 106 | 26 => 107 | 27 => 108 | 28 => 109 | 29 => 110 | 36 => 119 | 31 => 93 | 32 => 94 | 37 => 120 | 38 => 121 | 39 => 122 | 41 => 128 | n => n, fun | 27 => 41 | 29 => 9 | 3 => 3 | 32 => 99 | 26 => 41 | 0 => 0 | 44 => 119 | 46 => 121 | 4 => 4 | 36 => 112 | 35 => 111 | 41 => 116 | 5 => 5 | 9 => 9 | 53 => 136 | 57 => 140 | 63 => 158 | 64 => 78 | n => n, fun n => n⟩
theorem sortLays : SlLaysM.n6 Tryz.prog sortRen :=
 { mixed := by kernel_rfl
   f6 := ⟨Tryz.f65.name, by decide, Tryz.func65.trans (congrArg some (by kernel_rfl))⟩
   f8 := Tryz.func53.trans (congrArg some (by kernel_rfl))
   f9 := ⟨Tryz.f86.name, by decide, Tryz.func86.trans (congrArg some (by kernel_rfl))⟩
   f19 := Tryz.func78.trans (congrArg some (by kernel_rfl))
   f20 := Tryz.func79.trans (congrArg some (by kernel_rfl))
   f21 := ⟨Tryz.f102.name, by decide, Tryz.func102.trans (congrArg some (by kernel_rfl))⟩
   f22 := ⟨Tryz.f103.name, by decide, Tryz.func103.trans (congrArg some (by kernel_rfl))⟩
   f23 := ⟨Tryz.f104.name, by decide, Tryz.func104.trans (congrArg some (by kernel_rfl))⟩
   f24 := ⟨Tryz.f105.name, by decide, Tryz.func105.trans (congrArg some (by kernel_rfl))⟩
   f25 := ⟨Tryz.f106.name, by decide, Tryz.func106.trans (congrArg some (by kernel_rfl))⟩
   f26 := ⟨Tryz.f107.name, by decide, Tryz.func107.trans (congrArg some (by kernel_rfl))⟩
   f27 := ⟨Tryz.f108.name, by decide, Tryz.func108.trans (congrArg some (by kernel_rfl))⟩
   f28 := ⟨Tryz.f109.name, by decide, Tryz.func109.trans (congrArg some (by kernel_rfl))⟩
   f29 := ⟨Tryz.f110.name, by decide, Tryz.func110.trans (congrArg some (by kernel_rfl))⟩
   f31 := Tryz.func93.trans (congrArg some (by kernel_rfl))
   f32 := Tryz.func94.trans (congrArg some (by kernel_rfl))
   f36 := ⟨Tryz.f119.name, by decide, Tryz.func119.trans (congrArg some (by kernel_rfl))⟩
   f37 := ⟨Tryz.f120.name, by decide, Tryz.func120.trans (congrArg some (by kernel_rfl))⟩
   f38 := ⟨Tryz.f121.name, by decide, Tryz.func121.trans (congrArg some (by kernel_rfl))⟩
   f39 := ⟨Tryz.f122.name, by decide, Tryz.func122.trans (congrArg some (by kernel_rfl))⟩
   f41 := ⟨Tryz.f128.name, by decide, Tryz.func128.trans (congrArg some (by kernel_rfl))⟩
   t0 := by kernel_rfl
   a0 := fun _ => by kernel_rfl
   z0 := fun _ => by kernel_rfl
   v0 := fun _ => by kernel_rfl
   t3 := by kernel_rfl
   a3 := fun _ => by kernel_rfl
   z3 := fun _ => by kernel_rfl
   v3 := fun _ => by kernel_rfl
   t4 := by kernel_rfl
   a4 := fun _ => by kernel_rfl
   z4 := fun _ => by kernel_rfl
   v4 := fun _ => by kernel_rfl
   t5 := by kernel_rfl
   a5 := fun _ => by kernel_rfl
   z5 := fun _ => by kernel_rfl
   v5 := fun _ => by kernel_rfl
   t9 := by kernel_rfl
   a9 := fun _ => by kernel_rfl
   z9 := fun _ => by kernel_rfl
   v9 := fun _ => by kernel_rfl
   t26 := by kernel_rfl
   a26 := fun _ => by kernel_rfl
   z26 := fun _ => by kernel_rfl
   v26 := fun _ => by kernel_rfl
   t27 := by kernel_rfl
   a27 := fun _ => by kernel_rfl
   z27 := fun _ => by kernel_rfl
   v27 := fun _ => by kernel_rfl
   t29 := by kernel_rfl
   a29 := fun _ => by kernel_rfl
   z29 := fun _ => by kernel_rfl
   v29 := fun _ => by kernel_rfl
   t32 := by kernel_rfl
   a32 := fun _ => by kernel_rfl
   z32 := fun _ => by kernel_rfl
   v32 := fun _ => by kernel_rfl
   t35 := by kernel_rfl
   a35 := fun _ => by kernel_rfl
   z35 := fun _ => by kernel_rfl
   v35 := fun _ => by kernel_rfl
   t36 := by kernel_rfl
   a36 := fun _ => by kernel_rfl
   z36 := fun _ => by kernel_rfl
   v36 := fun _ => by kernel_rfl
   t41 := by kernel_rfl
   a41 := fun _ => by kernel_rfl
   z41 := fun _ => by kernel_rfl
   v41 := fun _ => by kernel_rfl
   t44 := by kernel_rfl
   a44 := fun _ => by kernel_rfl
   z44 := fun _ => by kernel_rfl
   v44 := fun _ => by kernel_rfl
   t46 := by kernel_rfl
   a46 := fun _ => by kernel_rfl
   z46 := fun _ => by kernel_rfl
   v46 := fun _ => by kernel_rfl
   t53 := by kernel_rfl
   a53 := fun _ => by kernel_rfl
   z53 := fun _ => by kernel_rfl
   v53 := fun _ => by kernel_rfl
   t57 := by kernel_rfl
   a57 := fun _ => by kernel_rfl
   z57 := fun _ => by kernel_rfl
   v57 := fun _ => by kernel_rfl
   t63 := by kernel_rfl
   a63 := fun _ => by kernel_rfl
   z63 := fun _ => by kernel_rfl
   v63 := fun _ => by kernel_rfl
   t64 := by kernel_rfl
   a64 := fun _ => by kernel_rfl
   z64 := fun _ => by kernel_rfl
   v64 := fun _ => by kernel_rfl }
theorem sorts (m : Nat) : AnyZ.SortsIn Tryz.prog sortedRen Fence.wide m :=
 ⟨fun blk off cap ss W hH hblk hsz => callsIn_wide.2 (AnyM.slices_Sort_string sortLays blk off cap ss W hH hblk hsz),
  fun p cap W => callsIn_wide.2 (AnyM.slices_Sort_string_none sortLays p cap W)⟩
theorem keys_in (mb : Option Nat) (W : World) : CallsIn Fence.wide 5 Tryz.prog 49 #[.map mb] W fun e w' => e = .returned (.func (.func 66) #[] #[.pointer (some ⟨W.heap.size, 0, none⟩)]) ∧ w' = W.alloc (.cells #[.map mb] 53) :=
 AnyZ.keys_in keysLays Fence.wide 5 trivial rfl mb W
set_option maxHeartbeats 1000000 in
theorem sorted_in {H : Type} (b nn : Nat) (D0 : DataW H) (R : Value → Option (DataW H × List MemPlace)) (w : World) (hown : w.ownsMap Tryz.prog 9 R b nn D0) (hmax : Maps.size D0 ≤ maxLen) (hbytes : Maps.size D0 * 16 ≤ 140737488355328) :
 CallsIn Fence.wide 5 Tryz.prog 48 #[.func (.func 66) #[] #[.pointer (some ⟨w.heap.size, 0, none⟩)]] (w.alloc (.cells #[.map (some b)] 53)) fun e w' => ∃ (v : Value) (ss : List (List UInt8)), e = .returned v ∧ ss.Perm (strKeys D0) ∧
  w'.ownsRow (w.heap.size + 1) 9 1 v ss.length ((ss.mergeSort (fun x y => decide (x ≤ y))).map encStr) ∧ (v = .slice none 0 0 ↔ ss = []) ∧ Below (w.heap.size + 1) (w.alloc (.cells #[.map (some b)] 53)) w' := by
 have hbl := hown.lt
 have hseq : SeqGives Fence.wide 2 Tryz.prog 66 #[.pointer (some ⟨w.heap.size, 0, none⟩)] encStr (fun ss => ss.Perm (strKeys D0)) (Maps.size D0) (w.alloc (.cells #[.map (some b)] 53)) :=
  AnyZ.keys_gives (ρ := keysRen) { keysLays with } Fence.wide _ trivial rfl (by omega) w.heap.size b nn D0 _ (by simp) (by simp) (by
   obtain ⟨es, clock, hb, Ft, hs, hD⟩ := hown
   exact ⟨es, clock, (Below.heap_alloc _ _ b hbl).trans hb, Ft, hs, hD⟩)
 have h := AnyZ.sorted_in sortedLays Fence.wide 5 trivial trivial trivial trivial rfl (by omega) (sorts _) (enters_of Tryz.func65 (by kernel_rfl) rfl) 66 #[.pointer (some ⟨w.heap.size, 0, none⟩)] trivial (enters_of Tryz.func66 (by kernel_rfl) rfl) _ _ hmax hbytes _ hseq
 have e : (w.alloc (.cells #[.map (some b)] 53)).heap.size = w.heap.size + 1 := by simp
 rw [e] at h
 exact h
end Go.Proofs.YtchmepalhldpcaaGreatDoor.Ov
namespace Go.Proofs.YtchmepalhldpcaaGreatDoor.Ov
open Go.ChangeShapes Go.WideShapes Go.ChangeAt Go.RowKit
def Strs (w : World) (p : Option Addr) (n : Nat) (t : Nat → ByteArray) : Prop :=
 0 < n → ∃ B O, p = some ⟨B, O, none⟩ ∧ ∀ i, i < n → w.cell? ⟨B, O + i, none⟩ = some (.string (t i))
section
variable {w w' : World} {p : Option Addr} {n : Nat} {t t' : Nat → ByteArray}
theorem Strs.below {B : Nat} (h : Strs w p n t) (hB : ∀ b, b < w.heap.size → b < B) (k : Below B w w') : Strs w' p n t := fun hn => by
 obtain ⟨b, O, e, hc⟩ := h hn
 exact ⟨b, O, e, fun i hi => by rw [k.cell (p := ⟨b, O + i, none⟩) (hB _ (block_lt_of_cell (hc i hi)))]; exact hc i hi⟩
theorem Strs.old (h : Strs w p n t) (k : Below w.heap.size w w') : Strs w' p n t := h.below (fun _ hb => hb) k
theorem Strs.at_ {B O : Nat} (h : Strs w (some ⟨B, O, none⟩) n t) {i : Nat} (hi : i < n) : w.cell? ⟨B, O + i, none⟩ = some (.string (t i)) := by
 obtain ⟨B', O', e, hc⟩ := h (by omega)
 simp only [Option.some.injEq, Addr.mk.injEq, and_true] at e
 obtain ⟨rfl, rfl⟩ := e
 exact hc i hi
end
theorem at_plain {w : World} {a : Addr} {v : Value} (h : w.cell? a = some v) : a = ⟨a.block, a.off, none⟩ := by
 obtain ⟨b, off, spot⟩ := a
 have hspot : spot = none := World.cell?_spot h
 subst hspot; rfl
theorem add0_ (a : Addr) : a.add 0 = a := by simp [Addr.add]
def StrIn (w : World) (p : Option Addr) (n c : Nat) (t : Nat → ByteArray) : Prop := Strs w p n t ∧ n ≤ maxLen ∧ n ≤ c
end Go.Proofs.YtchmepalhldpcaaGreatDoor.Ov
namespace Go.Proofs.YtchmepalhldpcaaGreatDoor.Dk
open Go.ChangeShapes Go.WideShapes Go.ChangeAt Go.RowKit Go.ChangeMaps Go.Maps Ov
section
def nmf (L : List (List UInt8 × List UInt8)) (i : Nat) : ByteArray := tx (L.getD i ([], [])).1
theorem nmf_at {L : List (List UInt8 × List UInt8)} {i : Nat} (h : i < L.length) : nmf L i = tx L[i].1 := by unfold nmf; simp [List.getD, h]
variable {w : World}
theorem strs_row {base n c : Nat} {A : Option Addr} {f : Nat → ByteArray} {xs : List Value} (h : w.ownsRow base 9 1 (.slice A n c) n xs) (hf : ∀ i, i < n → xs[i]? = some (.string (f i))) : Strs w A n f := fun h0 => by
 rcases h.2 with ⟨_, e⟩ | ⟨g, cap, cur, e, _⟩
 · omega
 · injection e with e1 e2 e3
   subst e1; subst e3
   exact ⟨g, 0, rfl, fun i hi => by rw [Nat.zero_add, h.cellAt i (by omega)]; exact hf i hi⟩
end
end Go.Proofs.YtchmepalhldpcaaGreatDoor.Dk
namespace Go.Proofs.YtchmepalhldpcaaGreatDoor.Tp
open Go.ChangeShapes Go.WideShapes Go.ChangeAt Go.RowKit Ov
theorem one_text (q : World) (g : Nat) (x : Nat) (hx : x < 256) (h : q.cell? ⟨g, 0, none⟩ = some (.int .u8 (x : Int))) :
 (convert 67 9 (.slice (some ⟨g, 0, none⟩) 1 1)).run Tryz.prog q = .ok (.string (tx [UInt8.ofNat x])) q :=
 run_text rfl fun j hj => by
  have : j = 0 := by simp at hj; omega
  subst this
  rw [Nat.zero_add, h]
  show some (Value.int .u8 (x : Int)) = some (Value.int .u8 (((UInt8.ofNat x).toNat : Nat) : Int))
  rw [u8_nat hx]
end Go.Proofs.YtchmepalhldpcaaGreatDoor.Tp
namespace Go.Proofs.YtchmepalhldpcaaGreatDoor.Fr
open Go.ChangeShapes Go.WideShapes Go.ChangeAt Go.RowKit Ov Va Tp
set_option maxRecDepth 100000 in
theorem rdec_small (n : Nat) (w : World) (hn : n < 10) : Calls Tryz.prog 57 #[.int .i64 (n : Int)] w (Gives (.string (tx (Lib.decDigits n))) w) := by
 have HE : Hid (tx [UInt8.ofNat (48 + n)] = tx (Lib.decDigits n)) := by show _ = _; rw [dec_small hn]
 have hcv := one_text (w.alloc (.cells #[.int .u8 (48 + (n : Int))] 5)) w.heap.size (48 + n) (by omega) (by simp)
 obtain ⟨c, hc⟩ : ∃ c, UInt8.ofNat (48 + n) = c := ⟨_, rfl⟩
 rw [hc] at hcv HE; clear hc
 go_enter Tryz.func57, Tryz.ntmps57
 go_wp2_with (fail)
 go_ret
 exact ⟨ret_str HE.out, box1 w _⟩
theorem dec_le (n : Nat) (h : n ≤ 9007199254740992) : (tx (Lib.decDigits n)).size ≤ 21 := by
 have h1 := Lib.itoa_length_le (n : Int) (by omega) (by omega)
 have e : Lib.itoa (n : Int) = Lib.decDigits n := by unfold Lib.itoa; rw [if_neg (by omega)]; rfl
 rw [tx_size, ← e]; exact h1
set_option maxRecDepth 100000 in
set_option maxHeartbeats 1000000 in
theorem rdec_nat (n : Nat) : ∀ (w : World), n ≤ 9007199254740992 → Calls Tryz.prog 57 #[.int .i64 (n : Int)] w (Gives (.string (tx (Lib.decDigits n))) w) := by
 induction n using Nat.strongRecOn with
 | _ n ih =>
   intro w hn
   by_cases hlt : n < 10
   · exact rdec_small n w hlt
   have HA : Hid (∀ w, Calls Tryz.prog 57 #[.int .i64 ((n : Int) / 10)] w (Gives (.string (tx (Lib.decDigits (n / 10)))) w)) := fun w => by
    have h := ih (n / 10) (by omega) w (by omega)
    rwa [show ((n / 10 : Nat) : Int) = (n : Int) / 10 by omega] at h
   have HC : Hid (∀ w, Calls Tryz.prog 57 #[.int .i64 ((n : Int) % 10)] w (Gives (.string (tx (Lib.decDigits (n % 10)))) w)) := fun w => by
    have h := rdec_small (n % 10) w (by omega)
    rwa [show ((n % 10 : Nat) : Int) = (n : Int) % 10 by omega] at h
   have HE : Hid (tx (Lib.decDigits (n / 10)) ++ tx (Lib.decDigits (n % 10)) = tx (Lib.decDigits n)) := by
    show _ = _
    rw [tx_append, dec_big hlt, dec_small (m := n % 10) (by omega)]
   have z1 := dec_le (n / 10) (by omega)
   have z2 := dec_le (n % 10) (by omega)
   generalize tx (Lib.decDigits (n / 10)) = a at *
   generalize tx (Lib.decDigits (n % 10)) = b at *
   have g1 : ¬ a.size + b.size > 9223372036854775807 := by omega
   have l1 : ¬ (n : Int) < 0 := by omega
   have l2 : ¬ (n : Int) < 10 := by omega
   have l3 : (0 : Int) ≤ (n : Int) := by omega
   have l4 : (n : Int) ≤ 9007199254740992 := by omega
   clear z1 z2 ih hlt hn
   generalize (n : Int) = m at *
   go_enter Tryz.func57, Tryz.ntmps57
   go_wp2_with (fail)
   refine (HA.out _).mono ?_
   rintro e w1 ⟨rfl, hb⟩
   have HB := Lib.hid hb; clear hb
   go_wp2_with (fail)
   refine (HC.out _).mono ?_
   rintro e w2 ⟨rfl, hb⟩
   have HB2 := Lib.hid (Below.next HB.out hb); clear hb
   go_wp2_with (fail)
   go_ret
   exact ⟨ret_str HE.out, HB2.out⟩
set_option maxHeartbeats 1000000 in
theorem rdec_any (n : Int) (w : World) (h : -9007199254740992 ≤ n ∧ n ≤ 9007199254740992) : Calls Tryz.prog 57 #[.int .i64 n] w (Gives (.string (tx (Lib.itoa n))) w) := by
 obtain ⟨h1, h2⟩ := h
 by_cases h0 : n < 0
 · have HA : Hid (∀ w, Calls Tryz.prog 57 #[.int .i64 (-n)] w (Gives (.string (tx (Lib.decDigits n.natAbs))) w)) := fun w => by
    have h := rdec_nat n.natAbs w (by omega)
    rwa [show ((n.natAbs : Nat) : Int) = -n by omega] at h
   have HE : Hid (⟨#[45]⟩ ++ tx (Lib.decDigits n.natAbs) = tx (Lib.itoa n)) := by
    show _ = _
    unfold Lib.itoa; rw [if_pos h0, show (⟨#[45]⟩ : ByteArray) = tx [45] from rfl, tx_append]; rfl
   have z := dec_le n.natAbs (by omega)
   generalize tx (Lib.decDigits n.natAbs) = a at *
   have g1 : ¬ 1 + a.size > 9223372036854775807 := by omega
   clear z
   go_enter Tryz.func57, Tryz.ntmps57
   go_wp2_with (fail)
   refine (HA.out _).mono ?_
   rintro e w1 ⟨rfl, hb⟩
   have HB := Lib.hid hb; clear hb
   go_wp2_with (fail)
   go_ret
   exact ⟨ret_str HE.out, HB.out⟩
 · have h := rdec_nat n.toNat w (by omega)
   rw [show ((n.toNat : Nat) : Int) = n by omega] at h
   have e : Lib.itoa n = Lib.decDigits n.toNat := by unfold Lib.itoa; rw [if_neg h0]
   rw [e]; exact h
end Go.Proofs.YtchmepalhldpcaaGreatDoor.Fr
namespace Go.Proofs.YtchmepalhldpcaaGreatDoor.Fr
open Go.ChangeShapes Go.WideShapes Go.ChangeAt Go.RowKit Ov
section
variable {H : Type} {enc : TypeId × Value → H} {w : World} {base : Nat} {spare : Nat → Bool} {held : Bool}
end
end Go.Proofs.YtchmepalhldpcaaGreatDoor.Fr

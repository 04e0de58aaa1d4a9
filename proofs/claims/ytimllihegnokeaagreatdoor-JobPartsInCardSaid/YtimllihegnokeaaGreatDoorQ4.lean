/-
  Small texts of this claim, together: EvLocal, EvNam, CrMore, GaCommon, JoFold.
-/
import Derived.Test.YtimllihegnokeaaGreatDoorQ3
import Derived.Test.YtimllihegnokeaaGreatDoorQCrTable
import Derived.Test.YtimllihegnokeaaGreatDoorQ1
import Derived.Test.YtimllihegnokeaaGreatDoorQ2
namespace Go.Proofs.YtimllihegnokeaaGreatDoor.Ev
open Ov Tp Ga Va Ex
def St.ahead (p : List (List UInt8 × Va)) (S : St) : St := { S with out := p ++ S.out }
def Pre {α : Type} (f : M α) : Prop := ∀ S n, (∃ a S1 m, f S n = .ok a S1 m ∧ S.out.length ≤ S1.out.length ∧ (∀ p, p.length + S1.out.length ≤ 64 → f (S.ahead p) n = .ok a (S1.ahead p) m) ∧ ∀ p, p.length + S.out.length ≤ 64 → 64 < p.length + S1.out.length → f (S.ahead p) n = .er 22) ∨
 (∃ x, f S n = .er x ∧ ∀ p, p.length + S.out.length ≤ 64 → f (S.ahead p) n = .er x ∨ f (S.ahead p) n = .er 22)
theorem Pre.still {α : Type} {f : M α} (h : ∀ S n, (∃ a S1 m, f S n = .ok a S1 m ∧ S1.out = S.out ∧ ∀ p, f (S.ahead p) n = .ok a (S1.ahead p) m) ∨ ∃ x, f S n = .er x ∧ ∀ p, f (S.ahead p) n = .er x) : Pre f := by
 intro S n
 rcases h S n with ⟨a, S1, m, e, e1, e2⟩ | ⟨x, e, e1⟩
 · exact .inl ⟨a, S1, m, e, by rw [e1]; exact Nat.le_refl _, fun p _ => e2 p, fun p h1 h2 => by rw [e1] at h2; omega⟩
 · exact .inr ⟨x, e, fun p _ => .inl (e1 p)⟩
theorem Pre.bnd {α β : Type} {f : M α} {g : α → M β} (hf : Pre f) (hg : ∀ a, Pre (g a)) : Pre (bnd f g) := by
 intro S n
 rcases hf S n with ⟨a, S1, m, e, e0, e1, e2⟩ | ⟨x, e, e1⟩
 · rcases hg a S1 m with ⟨b, S2, k, q, q0, q1, q2⟩ | ⟨x, q, q1⟩
   · refine .inl ⟨b, S2, k, by rw [bnd_ok e]; exact q, by omega, fun p hp => ?_, fun p h1 h2 => ?_⟩
     · rw [bnd_ok (e1 p (by omega))]; exact q1 p hp
     · by_cases h : p.length + S1.out.length ≤ 64
       · rw [bnd_ok (e1 p h)]; exact q2 p h h2
       · exact bnd_er (e2 p h1 (by omega))
   · refine .inr ⟨x, by rw [bnd_ok e]; exact q, fun p hp => ?_⟩
     by_cases h : p.length + S1.out.length ≤ 64
     · rw [bnd_ok (e1 p h)]; exact q1 p h
     · exact .inr (bnd_er (e2 p hp (by omega)))
 · refine .inr ⟨x, bnd_er e, fun p hp => ?_⟩
   rcases e1 p hp with h | h
   · exact .inl (bnd_er h)
   · exact .inr (bnd_er h)
theorem Pre.ret {α : Type} (a : α) : Pre (ret a) := .still fun S n => .inl ⟨a, S, n, rfl, rfl, fun _ => rfl⟩
theorem Pre.fail {α : Type} (x : Int) : Pre (fail x : M α) := .still fun _ _ => .inr ⟨x, rfl, fun _ => rfl⟩
theorem Pre.nmd (k : Int) : Pre (nmd k) := .still fun S n => .inl ⟨_, S, n, rfl, rfl, fun _ => rfl⟩
theorem Pre.setI (k : Int) : Pre (setI k) := .still fun _ n => .inl ⟨(), _, n, rfl, rfl, fun _ => rfl⟩
theorem Pre.tick : Pre tick := .still fun S n => by
 cases n with
 | zero => exact .inr ⟨15, rfl, fun _ => rfl⟩
 | succ n => exact .inl ⟨(), S, n, rfl, rfl, fun _ => rfl⟩
theorem Pre.lift (x : Int ⊕ Va) : Pre (lift x) := by
 cases x with
 | inl e => exact .fail e
 | inr v => exact .ret v
theorem Pre.emit (k : List UInt8) (v : Va) : Pre (emitM k v) := by
 intro S n
 by_cases h : 64 ≤ S.out.length
 · exact .inr ⟨22, by unfold emitM; rw [if_pos h], fun p hp => .inl (by unfold emitM St.ahead; dsimp only; rw [if_pos (by rw [List.length_append]; omega)])⟩
 · refine .inl ⟨v, _, n, by unfold emitM; rw [if_neg h], by rw [List.length_append]; omega, fun p hp => ?_, fun p hp hq => ?_⟩
   · rw [List.length_append] at hp
     unfold emitM St.ahead
     dsimp only
     rw [if_neg (by rw [List.length_append]; simp at hp; omega), List.append_assoc]
   · rw [List.length_append] at hq
     unfold emitM St.ahead
     dsimp only
     rw [if_pos (by rw [List.length_append]; simp at hq; omega)]
theorem Pre.ite {α : Type} {c : Prop} [Decidable c] {f g : M α} (hf : Pre f) (hg : Pre g) : Pre (if c then f else g) := by
 split
 · exact hf
 · exact hg
theorem Pre.withI {f : M Va} (h : Pre f) : Pre (withI f) := by
 intro S n
 rcases h S n with ⟨a, S1, m, e, e0, e1, e2⟩ | ⟨x, e, e1⟩
 · exact .inl ⟨a, { S1 with i := S.i }, m, by unfold Ev.withI; rw [e], e0, fun p hp => by unfold Ev.withI; rw [e1 p hp]; rfl, fun p hp hq => by unfold Ev.withI; rw [e2 p hp hq]⟩
 · refine .inr ⟨x, by unfold Ev.withI; rw [e], fun p hp => ?_⟩
   rcases e1 p hp with h | h
   · exact .inl (by unfold Ev.withI; rw [h])
   · exact .inr (by unfold Ev.withI; rw [h])
theorem Pre.withIt {v : Va} {f : M Va} (h : Pre f) : Pre (withIt v f) := by
 intro S n
 rcases h { S with it := v } n with ⟨a, S1, m, e, e0, e1, e2⟩ | ⟨x, e, e1⟩
 · exact .inl ⟨a, { S1 with it := S.it }, m, by unfold Ev.withIt; rw [e], e0, fun p hp => by have := e1 p hp; unfold St.ahead at this ⊢; unfold Ev.withIt; dsimp only at this ⊢; rw [this], fun p hp hq => by have := e2 p hp hq; unfold St.ahead at this ⊢; unfold Ev.withIt; dsimp only at this ⊢; rw [this]⟩
 · refine .inr ⟨x, by unfold Ev.withIt; rw [e], fun p hp => ?_⟩
   rcases e1 p hp with h | h
   · exact .inl (by unfold St.ahead at h ⊢; unfold Ev.withIt; dsimp only at h ⊢; rw [h])
   · exact .inr (by unfold St.ahead at h ⊢; unfold Ev.withIt; dsimp only at h ⊢; rw [h])
theorem Pre.ap (o : Int) (l : List Va) : Pre (ap o l) := by
 unfold Ev.ap
 exact .ite (.fail _) (.ite (.ite (.fail _) (.emit _ _)) (.lift _))
theorem Pre.lp {g : M Va} (h : Pre g) : ∀ (t : Nat) (k : Int) (v : Va), Pre (lp g t k v)
 | 0, _, v => .ret v
 | t + 1, k, v => by rw [lp_succ]; exact (Pre.setI k).bnd fun _ => h.bnd fun v => Pre.lp h t (k + 1) v
theorem Pre.va {f : List No → M Va} (h : ∀ r, Pre (f r)) : ∀ (k : Nat) (r : List No) (acc : List Va), Pre (va f k r acc)
 | 0, _, _ => .ret _
 | k + 1, r, acc => by rw [va_succ]; exact (h r).bnd fun v => Pre.va h k _ _
theorem Pre.body {f : List No → M Va} (h : ∀ r, Pre (f r)) (n : No) (r : List No) : Pre (body f n r) := by
 unfold Ev.body
 exact .ite (.ret _) (.ite (.nmd _) (.ite ((h r).bnd fun a => .ite (.fail _) (.ite (h _) (h _))) (.ite ((h r).bnd fun a => .ite (.fail _) (.ite (.fail _) (.withI (.lp (h _) _ _ _)))) (.ite ((h r).bnd fun a => .withIt (h _)) ((Pre.va h _ _ _).bnd fun l => .ap _ l)))))
def Kee {α : Type} (f : M α) : Prop := ∀ S n a S1 m, f S n = .ok a S1 m → S1 = { S with out := S1.out }
theorem Kee.bnd {α β : Type} {f : M α} {g : α → M β} (hf : Kee f) (hg : ∀ a, Kee (g a)) : Kee (bnd f g) := by
 intro S n b S1 m e
 unfold Ev.bnd at e
 cases hc : f S n with
 | er x => rw [hc] at e; cases e
 | ok a S2 n2 =>
   rw [hc] at e
   have h1 := hf _ _ _ _ _ hc
   have h2 := hg a _ _ _ _ _ e
   rw [h2, h1]
theorem Kee.ret {α : Type} (a : α) : Kee (ret a) := by
 intro S n b S1 m e; injection e with _ e2 _; subst e2; rfl
theorem Kee.fail {α : Type} (x : Int) : Kee (fail x : M α) := by intro S n b S1 m e; cases e
theorem Kee.nmd (k : Int) : Kee (nmd k) := by
 intro S n b S1 m e; injection e with _ e2 _; subst e2; rfl
theorem Kee.tick : Kee tick := by
 intro S n b S1 m e
 cases n with
 | zero => cases e
 | succ n => injection e with _ e2 _; subst e2; rfl
theorem Kee.lift (x : Int ⊕ Va) : Kee (lift x) := by
 cases x with
 | inl e => exact .fail e
 | inr v => exact .ret v
theorem Kee.emit (k : List UInt8) (v : Va) : Kee (emitM k v) := by
 intro S n b S1 m e
 unfold emitM at e
 split at e
 · cases e
 · injection e with _ e2 _; subst e2; rfl
theorem Kee.ite {α : Type} {c : Prop} [Decidable c] {f g : M α} (hf : Kee f) (hg : Kee g) : Kee (if c then f else g) := by
 split
 · exact hf
 · exact hg
def KeeI {α : Type} (f : M α) : Prop := ∀ S n a S1 m, f S n = .ok a S1 m → S1 = { S with out := S1.out, i := S1.i }
theorem Kee.toI {α : Type} {f : M α} (h : Kee f) : KeeI f := fun S n a S1 m e => by
 have := h S n a S1 m e
 rw [this]
theorem KeeI.bnd {α β : Type} {f : M α} {g : α → M β} (hf : KeeI f) (hg : ∀ a, KeeI (g a)) : KeeI (bnd f g) := by
 intro S n b S1 m e
 unfold Ev.bnd at e
 cases hc : f S n with
 | er x => rw [hc] at e; cases e
 | ok a S2 n2 =>
   rw [hc] at e
   have h1 := hf _ _ _ _ _ hc
   have h2 := hg a _ _ _ _ _ e
   rw [h2, h1]
theorem KeeI.setI (k : Int) : KeeI (setI k) := by
 intro S n b S1 m e; injection e with _ e2 _; subst e2; rfl
theorem KeeI.lp {g : M Va} (h : Kee g) : ∀ (t : Nat) (k : Int) (v : Va), KeeI (lp g t k v)
 | 0, _, v => (Kee.ret v).toI
 | t + 1, k, v => by rw [lp_succ]; exact (KeeI.setI k).bnd fun _ => h.toI.bnd fun v => KeeI.lp h t (k + 1) v
theorem Kee.withI {f : M Va} (h : KeeI f) : Kee (withI f) := by
 intro S n b S1 m e
 unfold Ev.withI at e
 cases hc : f S n with
 | er x => rw [hc] at e; cases e
 | ok a S2 n2 =>
   rw [hc] at e
   injection e with _ e2 _
   have h1 := h _ _ _ _ _ hc
   rw [← e2, h1]
theorem Kee.withIt {v : Va} {f : M Va} (h : Kee f) : Kee (withIt v f) := by
 intro S n b S1 m e
 unfold Ev.withIt at e
 cases hc : f { S with it := v } n with
 | er x => rw [hc] at e; cases e
 | ok a S2 n2 =>
   rw [hc] at e
   injection e with _ e2 _
   have h1 := h _ _ _ _ _ hc
   rw [← e2, h1]
theorem Kee.ap (o : Int) (l : List Va) : Kee (ap o l) := by
 unfold Ev.ap
 exact .ite (.fail _) (.ite (.ite (.fail _) (.emit _ _)) (.lift _))
theorem Kee.va {f : List No → M Va} (h : ∀ r, Kee (f r)) : ∀ (k : Nat) (r : List No) (acc : List Va), Kee (va f k r acc)
 | 0, _, _ => .ret _
 | k + 1, r, acc => by rw [va_succ]; exact (h r).bnd fun v => Kee.va h k _ _
theorem Kee.body {f : List No → M Va} (h : ∀ r, Kee (f r)) (n : No) (r : List No) : Kee (body f n r) := by
 unfold Ev.body
 exact .ite (.ret _) (.ite (.nmd _) (.ite ((h r).bnd fun a => .ite (.fail _) (.ite (h _) (h _))) (.ite ((h r).bnd fun a => .ite (.fail _) (.ite (.fail _) (.withI (.lp (h _) _ _ _)))) (.ite ((h r).bnd fun a => .withIt (h _)) ((Kee.va h _ _ _).bnd fun l => .ap _ l)))))
def St.alt (k : List UInt8) (v c : Va) (S : St) : St := { S with key := k, val := v, acc := c }
def Rs.alt {α : Type} (k : List UInt8) (v c : Va) : Rs α → Rs α
 | .er x => .er x
 | .ok a S n => .ok a (S.alt k v c) n
section
variable {K K' : List UInt8} {V C V' C' : Va}
def Was (K : List UInt8) (V C : Va) (S : St) : Prop := S.key = K ∧ S.val = V ∧ S.acc = C
def Nam {α : Type} (K : List UInt8) (V C : Va) (K' : List UInt8) (V' C' : Va) (f : M α) : Prop := ∀ S n, Was K V C S → f (S.alt K' V' C') n = (f S n).alt K' V' C' ∧ ∀ a S1 m, f S n = .ok a S1 m → Was K V C S1
theorem Nam.bnd {α β : Type} {f : M α} {g : α → M β} (hf : Nam K V C K' V' C' f) (hg : ∀ a, Nam K V C K' V' C' (g a)) : Nam K V C K' V' C' (bnd f g) := by
 intro S n h
 obtain ⟨h1, h2⟩ := hf S n h
 unfold Ev.bnd
 rw [h1]
 cases hc : f S n with
 | er x => exact ⟨rfl, fun a S1 m e => by cases e⟩
 | ok a S2 n2 => exact hg a S2 n2 (h2 _ _ _ hc)
theorem Nam.ret {α : Type} (a : α) : Nam K V C K' V' C' (ret a) := fun S n h => ⟨rfl, fun b S1 m e => by injection e with _ e2 _; subst e2; exact h⟩
theorem Nam.fail {α : Type} (x : Int) : Nam K V C K' V' C' (fail x : M α) := fun S n h => ⟨rfl, fun b S1 m e => by cases e⟩
theorem Nam.setI (k : Int) : Nam K V C K' V' C' (setI k) := fun S n h => ⟨rfl, fun b S1 m e => by injection e with _ e2 _; subst e2; exact h⟩
theorem Nam.tick : Nam K V C K' V' C' tick := fun S n h => by
 cases n with
 | zero => exact ⟨rfl, fun b S1 m e => by cases e⟩
 | succ n => exact ⟨rfl, fun b S1 m e => by injection e with _ e2 _; subst e2; exact h⟩
theorem Nam.lift (x : Int ⊕ Va) : Nam K V C K' V' C' (lift x) := by
 cases x with
 | inl e => exact .fail e
 | inr v => exact .ret v
theorem Nam.emit (k : List UInt8) (v : Va) : Nam K V C K' V' C' (emitM k v) := fun S n h => by
 unfold emitM
 by_cases hl : 64 ≤ S.out.length
 · rw [if_pos (show 64 ≤ (S.alt K' V' C').out.length from hl), if_pos hl]; exact ⟨rfl, fun b S1 m e => by cases e⟩
 · rw [if_neg (show ¬ 64 ≤ (S.alt K' V' C').out.length from hl), if_neg hl]; exact ⟨rfl, fun b S1 m e => by injection e with _ e2 _; subst e2; exact h⟩
theorem Nam.nmd {k : Int} (h0 : k = 0 → K = K') (h1 : k = 1 → V = V') (h2 : k = 2 → C = C') : Nam K V C K' V' C' (nmd k) := fun S n h => by
 refine ⟨?_, fun b S1 m e => by injection e with _ e2 _; subst e2; exact h⟩
 obtain ⟨rfl, rfl, rfl⟩ := h
 unfold Ev.nmd Rs.alt
 by_cases e0 : k = 0
 · rw [if_pos e0, if_pos e0]; unfold St.alt; rw [← h0 e0]
 by_cases e1 : k = 1
 · rw [if_neg e0, if_pos e1, if_neg e0, if_pos e1]; unfold St.alt; rw [← h1 e1]
 by_cases e2 : k = 2
 · rw [if_neg e0, if_neg e1, if_pos e2, if_neg e0, if_neg e1, if_pos e2]; unfold St.alt; rw [← h2 e2]
 · rw [if_neg e0, if_neg e1, if_neg e2, if_neg e0, if_neg e1, if_neg e2]; rfl
theorem Nam.ite {α : Type} {c : Prop} [Decidable c] {f g : M α} (hf : c → Nam K V C K' V' C' f) (hg : ¬ c → Nam K V C K' V' C' g) : Nam K V C K' V' C' (if c then f else g) := by
 split
 · exact hf ‹_›
 · exact hg ‹_›
theorem Nam.withI {f : M Va} (h : Nam K V C K' V' C' f) : Nam K V C K' V' C' (withI f) := fun S n hw => by
 obtain ⟨h1, h2⟩ := h S n hw
 unfold Ev.withI
 rw [h1]
 cases hc : f S n with
 | er x => exact ⟨rfl, fun a S1 m e => by cases e⟩
 | ok a S2 n2 => exact ⟨rfl, fun b S1 m e => by injection e with _ e2 _; subst e2; exact (h2 _ _ _ hc : Was K V C S2)⟩
theorem Nam.withIt {v : Va} {f : M Va} (h : Nam K V C K' V' C' f) : Nam K V C K' V' C' (withIt v f) := fun S n hw => by
 obtain ⟨h1, h2⟩ := h { S with it := v } n hw
 unfold Ev.withIt
 rw [show ({ (S.alt K' V' C') with it := v } : St) = St.alt K' V' C' { S with it := v } from rfl, h1]
 cases hc : f { S with it := v } n with
 | er x => exact ⟨rfl, fun a S1 m e => by cases e⟩
 | ok a S2 n2 => exact ⟨rfl, fun b S1 m e => by injection e with _ e2 _; subst e2; exact (h2 _ _ _ hc : Was K V C S2)⟩
theorem Nam.ap (o : Int) (l : List Va) : Nam K V C K' V' C' (ap o l) := by
 unfold Ev.ap
 exact .ite (fun _ => .fail _) fun _ => .ite (fun _ => .ite (fun _ => .fail _) fun _ => .emit _ _) fun _ => .lift _
theorem Nam.lp {g : M Va} (h : Nam K V C K' V' C' g) : ∀ (t : Nat) (k : Int) (v : Va), Nam K V C K' V' C' (lp g t k v)
 | 0, _, v => .ret v
 | t + 1, k, v => by rw [lp_succ]; exact (Nam.setI k).bnd fun _ => h.bnd fun v => Nam.lp h t (k + 1) v
end
theorem nx_mem {n : No} {r : List No} (h : n ∈ nx r) : n ∈ r := by
 unfold nx at h
 cases hc : ex 25 r with
 | none => rw [hc] at h; cases h
 | some r' =>
   rw [hc] at h
   obtain ⟨c, e, _⟩ := ex_takes 25 r r' hc
   rw [e]; exact List.mem_append_right _ h
def Ali (K : List UInt8) (V C : Va) (K' : List UInt8) (V' C' : Va) (l : List No) : Prop := ∀ n ∈ l, n.o = 1 → (n.v.n = 0 → K = K') ∧ (n.v.n = 1 → V = V') ∧ (n.v.n = 2 → C = C')
section
variable {K K' : List UInt8} {V C V' C' : Va}
theorem Ali.nx {l : List No} (h : Ali K V C K' V' C' l) : Ali K V C K' V' C' (nx l) := fun n hn => h n (nx_mem hn)
theorem Nam.va {f : List No → M Va} (h : ∀ r, Ali K V C K' V' C' r → Nam K V C K' V' C' (f r)) : ∀ (k : Nat) (r : List No) (acc : List Va), Ali K V C K' V' C' r → Nam K V C K' V' C' (va f k r acc)
 | 0, _, _, _ => .ret _
 | k + 1, r, acc, hr => by rw [va_succ]; exact (h r hr).bnd fun v => Nam.va h k _ _ hr.nx
theorem Nam.body {f : List No → M Va} (h : ∀ r, Ali K V C K' V' C' r → Nam K V C K' V' C' (f r)) {n : No} {r : List No} (hr : Ali K V C K' V' C' (n :: r)) : Nam K V C K' V' C' (body f n r) := by
 have h1 : Ali K V C K' V' C' r := fun m hm => hr m (List.mem_cons_of_mem _ hm)
 unfold Ev.body
 exact .ite (fun _ => .ret _) fun _ => .ite (fun e => have g := hr n List.mem_cons_self e; .nmd g.1 g.2.1 g.2.2) fun _ => .ite (fun _ => (h r h1).bnd fun a => .ite (fun _ => .fail _) fun _ => .ite (fun _ => h _ h1.nx.nx) fun _ => h _ h1.nx) fun _ =>
  .ite (fun _ => (h r h1).bnd fun a => .ite (fun _ => .fail _) fun _ => .ite (fun _ => .fail _) fun _ => .withI (.lp (h _ h1.nx) _ _ _)) fun _ => .ite (fun _ => (h r h1).bnd fun a => .withIt (h _ h1.nx)) fun _ => (Nam.va h _ _ _ h1).bnd fun l => .ap _ l
end
end Go.Proofs.YtimllihegnokeaaGreatDoor.Ev
namespace Go.Proofs.YtimllihegnokeaaGreatDoor.Cr
open Go.ChangeShapes Go.WideShapes Go.ChangeAt Go.RowKit Ov
def MW (w : World) : World := w.alloc (.cells (TA (hs 8)) 190)
theorem MW_at (w : World) (i : Nat) (h : i < 256) : (MW w).cell? ⟨w.heap.size, i, none⟩ = some (.int .u32 (hs 8 i : Int)) := by
 unfold MW
 rw [World.cell?_alloc_at _ _ _ _ rfl]; exact TA_get _ i h
theorem MW_store (w : World) : (storeCells ⟨w.heap.size, 0, none⟩ (TA (hs 8)).toList).run Tryz.prog (w.alloc (.cells (TA fun _ => 0) 190)) = .ok () (MW w) :=
 run_storeCells_new w 190 _ _ (TA_info _) (by rw [TA_size, TA_size]) (TA_one _)
theorem MW_below {w w1 : World} (h : Below w.heap.size w w1) : Below w.heap.size w (MW w1) := h.alloc h.size _
theorem st_bits (n : Nat) (b : UInt8) (hn : n < 4294967296) : bits .xor .u32 ((n / 256 : Nat) : Int) ((hs 8 (n % 256 ^^^ b.toNat) : Nat) : Int) = (st n b : Nat) := by
 have h8 : n % 256 ^^^ b.toNat < 256 := Nat.xor_lt_two_pow (n := 8) (by omega) b.toNat_lt
 rw [bits_xor_u32 _ _ (by omega) (hs_lt 8 (by omega)), st_tab]
theorem nt_bits {s : Nat} (h : s < 4294967296) : bits .xor .u32 IntKind.u32.max (s : Int) = (nt s : Nat) := bits_xor_u32 4294967295 s (by omega) h
def RelM (s : Nat) (t : ByteArray) (N I : Value) : Prop := ∃ k : Nat, k ≤ t.size ∧ N = .int .u32 (run (nt s) (t.data.toList.take k) : Nat) ∧ I = .int .i64 (k : Int)
set_option maxRecDepth 100000 in
set_option maxHeartbeats 1000000 in
theorem more_any (s : Nat) (t : ByteArray) (w : World) (hs' : s < 4294967296) (ht : t.size ≤ 1000000) :
 Calls Tryz.prog 96 #[.int .u32 (s : Int), .string t] w fun e w' => e = .returned (.int .u32 (mo s t.data.toList : Nat)) ∧ Below w.heap.size w w' := by
 have hz := zeroT
 have HN := Lib.hid (nt_bits hs')
 go_enter Tryz.func96, Tryz.ntmps96
 go_wp2_with (fail)
 refine (table_any _).mono ?_
 rintro e w1 ⟨rfl, hb⟩
 have HB := Lib.hid (MW_below hb); clear hb
 have HC := Lib.hid (MW_at w1)
 have hst := MW_store w1
 go_wp2_with (fail)
 clear hst hz
 generalize MW w1 = wm at *
 go_loop [6, 13] (fun N I => RelM s t N I) (fun _ I => t.size - (intOf I).toNat)
 case atStart => exact ⟨0, by omega, by rw [HN.out]; rfl, rfl⟩
 case round =>
  obtain ⟨k, hk, rfl, rfl⟩ := hrel
  have hl := run_lt (t.data.toList.take k) (nt_lt hs')
  by_cases hlt : k < t.size
  · have HR : Hid (run (nt s) (t.data.toList.take (k + 1)) = st (run (nt s) (t.data.toList.take k)) t[k]) := by
     show _ = _
     rw [take_snoc t k hlt, run_snoc]
    generalize run (nt s) (t.data.toList.take k) = n at *
    have e2 := bits_xor_u8 (n % 256) t[k].toNat (by omega) (UInt8.toNat_lt _)
    have h8 : n % 256 ^^^ t[k].toNat < 256 := Nat.xor_lt_two_pow (n := 8) (by omega) (UInt8.toNat_lt _)
    have hc := HC.out (n % 256 ^^^ t[k].toNat) h8
    have HX := Lib.hid (st_bits n t[k] hl)
    generalize n % 256 ^^^ t[k].toNat = x at e2 h8 hc HX
    have e3 : bits .xor .u8 ((n : Int) % 256) (t[k].toNat : Int) = (x : Int) := e2
    clear e2
    have k0 : (k : Int) < (t.size : Int) := by omega
    go_wp2_with (fail)
    go_round
    case rel => exact ⟨k + 1, by omega, by rw [HR.out, ← HX.out]; rfl, by go_num⟩
    case measure => simp [intOf]; omega
  · obtain rfl : k = t.size := by omega
    rw [take_all] at hl ⊢
    have HN2 := Lib.hid (nt_bits hl)
    have hge : ¬ (t.size : Int) < (t.size : Int) := by omega
    go_wp2_with (fail)
    go_ret
    exact ⟨ret_int HN2.out, HB.out⟩
set_option maxHeartbeats 1000000 in
theorem sum_any (t : ByteArray) (w : World) (ht : t.size ≤ 1000000) :
 Calls Tryz.prog 60 #[.string t] w fun e w' => e = .returned (.int .u32 (sm t.data.toList : Nat)) ∧ Below w.heap.size w w' := by
 go_enter Tryz.func60, Tryz.ntmps60
 go_wp2_with (fail)
 refine (more_any 0 t _ (by omega) ht).mono ?_
 rintro e w1 ⟨rfl, hb⟩
 have HB := Lib.hid hb; clear hb
 go_wp2_with (fail)
 go_ret
 exact ⟨rfl, HB.out⟩
end Go.Proofs.YtimllihegnokeaaGreatDoor.Cr
namespace Go.Proofs.YtimllihegnokeaaGreatDoor.Ga
open Go.ChangeShapes Go.WideShapes Go.ChangeAt Go.RowKit Ov
def JG (x y u v : Int) (w : World) (a' : Act) (w' : World) : Prop := ∃ (p q r s : Int) (u6 u7 u8 u9 u10 u11 u12 u13 u14 u15 u16 u17 u18 u19 u20 u21 u22 u23 u24 u25 : Value),
 rb ⟨p, q⟩ = true ∧ rb ⟨r, s⟩ = true ∧ Pt.cg ⟨p, q⟩ ⟨r, s⟩ = Pt.cg ⟨x, y⟩ ⟨u, v⟩ ∧ Duo w' w.heap.size (.int .i64 p) (.int .i64 q) ∧ Duo w' (w.heap.size + 1) (.int .i64 r) (.int .i64 s) ∧ Duo w' (w.heap.size + 1 + 1) (.int .i64 0) (.int .i64 0) ∧ Below w.heap.size w w' ∧
 a' = { tmps := #[.agg #[.int .i64 x, .int .i64 y], .agg #[.int .i64 u, .int .i64 v], .pointer (some ⟨w.heap.size, 0, none⟩), .pointer (some ⟨w.heap.size + 1, 0, none⟩), .pointer (some ⟨w.heap.size + 1 + 1, 0, none⟩), .int .i64 0, u6, u7, u8, u9, u10, u11, u12, u13, u14, u15, u16, u17, u18, u19, u20, u21, u22, u23, u24, u25], defers := [] }
def muG (w : World) (_ : Act) (w' : World) : Nat := (Pt.norm ⟨cellInt w' (w.heap.size + 1) 0, cellInt w' (w.heap.size + 1) 1⟩).toNat
set_option maxRecDepth 100000 in
set_option maxHeartbeats 2000000 in
theorem common_yes {x y u v : Int} (ha : rb ⟨x, y⟩ = true) (hb : rb ⟨u, v⟩ = true) (w : World) : Calls Tryz.prog 91 #[.agg #[.int .i64 x, .int .i64 y], .agg #[.int .i64 u, .int .i64 v]] w
 (Gives (.tuple #[.agg #[.int .i64 (Pt.cg ⟨x, y⟩ ⟨u, v⟩).x, .int .i64 (Pt.cg ⟨x, y⟩ ⟨u, v⟩).y], .int .i64 0]) w) := by
 have HR := Lib.hid (both_any x y u v); rw [ha, hb] at HR
 have HA := Lib.hid ha; have HH := Lib.hid hb; clear ha hb
 go_enter Tryz.func91, Tryz.ntmps91
 go_wp2_with (fail)
 refine wp_scope_once 0 (JG x y u v w) (muG w) rfl (fun NX => ?_) ?_
 · go_wp2_with (fail)
   refine (HR.out _).mono ?_
   rintro e w1 ⟨rfl, hb⟩
   obtain ⟨h2, d2, d3, d4⟩ := boxes3 43 (.int .i64 x) (.int .i64 y) (.int .i64 u) (.int .i64 v) (.int .i64 0) (.int .i64 0) w
   have HB := Lib.hid (Below.next h2 hb)
   have D2 := Lib.hid (d2.next hb); have D3 := Lib.hid (d3.next hb); have D4 := Lib.hid (d4.next hb)
   clear hb h2 d2 d3 d4
   go_wp2_with (fail)
   go_step3
   rename_i hK
   exact hK _ _ (NX.out _ _ ⟨x, y, u, v, _, _, _, _, _, _, _, _, _, _, _, _, _, _, _, _, _, _, _, _, HA.out, HH.out, rfl, D2.out, D3.out, D4.out, HB.out, rfl⟩)
 · rintro a' w' ⟨p, q, r, s, u6, u7, u8, u9, u10, u11, u12, u13, u14, u15, u16, u17, u18, u19, u20, u21, u22, u23, u24, u25, ha, hb, hg, d2, d3, d4, hbl, rfl⟩
   have HP := Lib.hid ha; have HQ := Lib.hid hb; have HG := Lib.hid hg; have D2 := Lib.hid d2; have D3 := Lib.hid d3; have D4 := Lib.hid d4; have HB := Lib.hid hbl
   obtain ⟨a0, a1, f2, f3⟩ := d2
   obtain ⟨b0, b1, f4, f5⟩ := d3
   have HM : Hid (muG w { tmps := #[.agg #[.int .i64 x, .int .i64 y], .agg #[.int .i64 u, .int .i64 v], .pointer (some ⟨w.heap.size, 0, none⟩), .pointer (some ⟨w.heap.size + 1, 0, none⟩), .pointer (some ⟨w.heap.size + 1 + 1, 0, none⟩), .int .i64 0, u6, u7, u8, u9, u10, u11, u12, u13, u14, u15, u16, u17, u18, u19, u20, u21, u22, u23, u24, u25], defers := [] } w' = (Pt.norm ⟨r, s⟩).toNat) := by
    show muG _ _ _ = _
    unfold muG; rw [cellInt_of b0, cellInt_of b1]
   clear ha hb hg d4 hbl
   by_cases h0 : (⟨r, s⟩ : Pt) = Pt.zero
   · have HC : Hid (Pt.cg ⟨x, y⟩ ⟨u, v⟩ = Pt.fs ⟨p, q⟩) := by
      show _ = _
      rw [← HG.out, h0, Pt.cg_zero]
     have hr : (r == 0) = true := by injection h0 with h1 h2; exact beq_iff_eq.2 h1
     have hs : (s == 0) = true := by injection h0 with h1 h2; exact beq_iff_eq.2 h2
     clear h0
     rw [HC.out]
     have HF := Lib.hid (first_any HP.out)
     generalize (Pt.fs ⟨p, q⟩).x = fx at *
     generalize (Pt.fs ⟨p, q⟩).y = fy at *
     go_wp2_with (fail)
     refine (HF.out _).mono ?_
     rintro e w2 ⟨rfl, hb⟩
     have HB2 := Lib.hid (HB.out.trans (hb.mono HB.out.size))
     have hz := (D4.out.next hb).lt
     obtain ⟨e0, e1, g0, g1⟩ := D4.out.next hb
     clear hb a0 a1 b0 b1
     go_wp2_with (fail)
     simp only [Exit.jump]
     refine bodyPost_ret (v := .tuple #[.agg #[.int .i64 fx, .int .i64 fy], .int .i64 0]) (by simp [results, Tryz.results91, go_sem, e0, e1]) rfl ⟨rfl, ?_⟩
     exact below_put2 HB2.out (c := w.heap.size + 1 + 1) (by omega) _ _
   · have HC : Hid (Pt.cg ⟨r, s⟩ (Pt.rest ⟨p, q⟩ ⟨r, s⟩) = Pt.cg ⟨x, y⟩ ⟨u, v⟩) := by
      show _ = _
      rw [← HG.out, Pt.cg_rest _ h0]
     have HL := Lib.hid (Pt.rest_lt ⟨p, q⟩ h0)
     have HN := Lib.hid (Pt.rest_right (a := ⟨p, q⟩) HQ.out h0)
     have HD := Lib.hid (divide_any HP.out HQ.out h0)
     have hne := not_zero h0
     clear h0
     obtain ⟨t, ht⟩ : ∃ t, Pt.rest ⟨p, q⟩ ⟨r, s⟩ = t := ⟨_, rfl⟩
     rw [ht] at HC HL HN HD
     obtain ⟨tx, ty⟩ := t
     have HD2 : Hid (∀ w, Calls Tryz.prog 130 #[.agg #[.int .i64 p, .int .i64 q], .agg #[.int .i64 r, .int .i64 s]] w
      (Gives (.tuple #[.agg #[.int .i64 (Pt.quo ⟨p, q⟩ ⟨r, s⟩).x, .int .i64 (Pt.quo ⟨p, q⟩ ⟨r, s⟩).y], .agg #[.int .i64 tx, .int .i64 ty]]) w)) := HD
     clear HD ht
     generalize (Pt.quo ⟨p, q⟩ ⟨r, s⟩).x = qx at *
     generalize (Pt.quo ⟨p, q⟩ ⟨r, s⟩).y = qy at *
     rcases hne with hr | ⟨hr, hs⟩
     all_goals
      go_wp2_with (fail)
      refine (HD2.out _).mono ?_
      rintro e w2 ⟨rfl, hb⟩
      obtain ⟨k2, o6, o7⟩ := boxes2 43 (.int .i64 qx) (.int .i64 qy) (.int .i64 tx) (.int .i64 ty) w2
      have HB2 := Lib.hid ((HB.out.trans (hb.mono HB.out.size)).trans (k2.mono (HB.out.trans (hb.mono HB.out.size)).size))
      have F2 := Lib.hid ((D2.out.next hb).next k2)
      have F3 := Lib.hid ((D3.out.next hb).next k2)
      have F4 := Lib.hid ((D4.out.next hb).next k2)
      have O7 := Lib.hid o7
      have hg : w.heap.size + 1 + 1 < w2.heap.size := (D4.out.next hb).lt
      clear hb a0 a1 b0 b1 f2 f3 f4 f5 k2 o6 o7
      go_wp2_with (fail)
      generalize (w2.alloc (.cells #[.int .i64 qx, .int .i64 qy] 43)).alloc (.cells #[.int .i64 tx, .int .i64 ty] 43) = w3 at *
      have n1 : ¬ w.heap.size = w2.heap.size + 1 := by omega
      have n2 : ¬ w.heap.size + 1 = w2.heap.size + 1 := by omega
      have n3 : ¬ w2.heap.size + 1 = w.heap.size := by omega
      have n4 : ¬ w2.heap.size + 1 = w.heap.size + 1 := by omega
      clear hg
      generalize w2.heap.size + 1 = g at *
      obtain ⟨a0, a1, _, _⟩ := O7.out
      obtain ⟨b0, b1, g0, g1⟩ := F2.out
      obtain ⟨c0, c1, i0, i1⟩ := F3.out
      have hz := F4.out.lt
      have HX := Lib.hid (((F2.out.set (.int .i64 r) (.int .i64 s)).put2 (c := w.heap.size + 1) (by omega) (.int .i64 tx) (.int .i64 ty)).drew)
      have HY := Lib.hid (((F3.out.put2 (c := w.heap.size) (by omega) (.int .i64 r) (.int .i64 s)).set (.int .i64 tx) (.int .i64 ty)).drew)
      have HZ := Lib.hid (((F4.out.put2 (c := w.heap.size) (by omega) (.int .i64 r) (.int .i64 s)).put2 (c := w.heap.size + 1) (by omega) (.int .i64 tx) (.int .i64 ty)).drew)
      have HW := Lib.hid (below_put2 (below_put2 HB2.out (c := w.heap.size) (by omega) (.int .i64 r) (.int .i64 s)) (c := w.heap.size + 1) (by omega) (.int .i64 tx) (.int .i64 ty)).drew
      go_region
      go_wp2_with (fail)
      go_step3
      refine ⟨rfl, ⟨r, s, tx, ty, _, _, _, _, _, _, _, _, _, _, _, _, _, _, _, _, _, _, _, _, HQ.out, HN.out, HC.out, HX.out, HY.out, HZ.out, HW.out, rfl⟩, ?_⟩
      refine Nat.lt_of_lt_of_eq ?_ HM.out.symm
      unfold muG
      rw [cellInt_of HY.out.c0, cellInt_of HY.out.c1]
      exact HL.out
end Go.Proofs.YtimllihegnokeaaGreatDoor.Ga
namespace Go.Proofs.YtimllihegnokeaaGreatDoor.Jo
open Go.ChangeShapes Go.WideShapes Go.ChangeAt Go.RowKit Ov Ga Va
theorem five {w : World} {b : Nat} {x0 x1 x2 x3 x4 : Value} (h : Blk w b [x0, x1, x2, x3, x4]) : w.cell? ⟨b, 0, none⟩ = some x0 ∧ w.cell? ⟨b, 1, none⟩ = some x1 ∧ w.cell? ⟨b, 2, none⟩ = some x2 ∧ w.cell? ⟨b, 3, none⟩ = some x3 ∧ w.cell? ⟨b, 4, none⟩ = some x4 := ⟨h.c 0 _ rfl, h.c 1 _ rfl, h.c 2 _ rfl, h.c 3 _ rfl, h.c 4 _ rfl⟩
theorem thaw {w : World} {b : Nat} {x0 x1 x2 x3 x4 : Value} (h : Blk w b [x0, x1, x2, x3, x4]) : w.frozen? ⟨b, 0, none⟩ = false ∧ w.frozen? ⟨b, 1, none⟩ = false ∧ w.frozen? ⟨b, 2, none⟩ = false ∧ w.frozen? ⟨b, 3, none⟩ = false ∧ w.frozen? ⟨b, 4, none⟩ = false := ⟨h.f 0 _ rfl, h.f 1 _ rfl, h.f 2 _ rfl, h.f 3 _ rfl, h.f 4 _ rfl⟩
theorem fin5 {P : World → Prop} {lo : Nat} {W w : World} {b : Nat} {x0 x1 x2 x3 x4 : Value} (h : Blk w b [x0, x1, x2, x3, x4]) (hb : Below lo W w) (hlo : lo ≤ b) (a0 a1 a2 a3 a4 : Value)
 (k : ∀ w', Blk w' b [a0, a1, a2, a3, a4] → Below lo W w' → (∀ c ys, c ≠ b → Blk w c ys → Blk w' c ys) → P w') : P (((((w.setCell ⟨b, 0, none⟩ a0).setCell ⟨b, 1, none⟩ a1).setCell ⟨b, 2, none⟩ a2).setCell ⟨b, 3, none⟩ a3).setCell ⟨b, 4, none⟩ a4) :=
 k _ (((((h.set 0 a0).set 1 a1).set 2 a2).set 3 a3).set 4 a4) (((((hb.setCell hlo _).setCell hlo _).setCell hlo _).setCell hlo _).setCell hlo _) fun _ _ hc g => ((((g.put (Ne.symm hc) 0 a0).put (Ne.symm hc) 1 a1).put (Ne.symm hc) 2 a2).put (Ne.symm hc) 3 a3).put (Ne.symm hc) 4 a4
theorem fin2 {P : World → Prop} {lo : Nat} {W w : World} {b : Nat} {x0 x1 : Value} (h : Duo w b x0 x1) (hb : Below lo W w) (hlo : lo ≤ b) (a0 a1 : Value)
 (k : ∀ w', Duo w' b a0 a1 → Below lo W w' → P w') : P ((w.setCell ⟨b, 0, none⟩ a0).setCell ⟨b, 1, none⟩ a1) := k _ (h.set a0 a1) ((hb.setCell hlo _).setCell hlo _)
theorem two_boxes (w : World) (t : TypeId) (xs ys zs : List Value) : Blk (((w.alloc (.cells xs.toArray t)).alloc (.cells ys.toArray t)).alloc (.cells zs.toArray t)) w.heap.size xs ∧
 Blk (((w.alloc (.cells xs.toArray t)).alloc (.cells ys.toArray t)).alloc (.cells zs.toArray t)) (w.heap.size + 1) ys ∧ Blk (((w.alloc (.cells xs.toArray t)).alloc (.cells ys.toArray t)).alloc (.cells zs.toArray t)) (w.heap.size + 1 + 1) zs ∧
 Below w.heap.size w (((w.alloc (.cells xs.toArray t)).alloc (.cells ys.toArray t)).alloc (.cells zs.toArray t)) :=
 ⟨((Blk.made w t xs rfl).old _).old _, (Blk.made _ t ys (World.size_alloc _ _)).old _, Blk.made _ t zs (by simp [World.size_alloc]), box3 _ _ _ _⟩
set_option maxHeartbeats 1000000 in
theorem choose_b (c : ByteArray) (k n x y k' n' x' y' : Int) (s s' : ByteArray) (hs : s'.size ≤ 281474976710656) (w : World) (h : (decide (ord ⟨k, n, s.data.toList, x, y⟩ ⟨k', n', s'.data.toList, x', y'⟩ < 0) == (c.toList == [109, 97, 120])) = true) :
 Calls Tryz.prog 51 #[.string c, .agg #[.int .i64 k, .int .i64 n, .string s, .int .i64 x, .int .i64 y], .agg #[.int .i64 k', .int .i64 n', .string s', .int .i64 x', .int .i64 y']] w (Gives (.agg #[.int .i64 k', .int .i64 n', .string s', .int .i64 x', .int .i64 y']) w) := by
 have HO := Lib.hid (order_val k n x y k' n' x' y' s s')
 have HC := Lib.hid (fun w1 => clone_any s' w1 hs)
 generalize ord ⟨k, n, s.data.toList, x, y⟩ ⟨k', n', s'.data.toList, x', y'⟩ = o at *
 obtain ⟨D1, D2, D3, hb0⟩ := two_boxes w 45 [.int .i64 k, .int .i64 n, .string s, .int .i64 x, .int .i64 y] [.int .i64 k', .int .i64 n', .string s', .int .i64 x', .int .i64 y'] [.int .i64 0, .int .i64 0, .string ⟨#[]⟩, .int .i64 0, .int .i64 0]
 have H1 := Lib.hid D1; have H2 := Lib.hid D2; have H3 := Lib.hid D3; have HB := Lib.hid hb0; clear D1 D2 D3 hb0
 go_enter Tryz.func51, Tryz.ntmps51
 go_wp2_with (fail)
 refine (HO.out _).mono ?_
 rintro e w1 ⟨rfl, hb⟩
 replace H1 := Lib.hid (H1.out.next hb); replace H2 := Lib.hid (H2.out.next hb); replace H3 := Lib.hid (H3.out.next hb); replace HB := Lib.hid (Below.next HB.out hb); clear hb
 obtain ⟨c0, c1, c2, c3, c4⟩ := five H2.out
 obtain ⟨f0, f1, f2, f3, f4⟩ := thaw H1.out
 obtain ⟨e0, e1, e2, e3, e4⟩ := five H1.out
 go_wp2_with (fail)
 clear c0 c1 c2 c3 c4 f0 f1 f2 f3 f4 e0 e1 e2 e3 e4
 refine fin5 (P := fun W => Calls Tryz.prog _ _ W _) H1.out HB.out (Nat.le_refl _) _ _ _ _ _ fun w2 hx hy ho => ?_
 replace H3 := Lib.hid (ho _ _ (by omega) H3.out); replace H1 := Lib.hid hx; replace HB := Lib.hid hy; clear hx hy ho H2
 refine (HC.out _).mono ?_
 rintro e w3 ⟨rfl, hb⟩
 replace H1 := Lib.hid (H1.out.next hb); replace H3 := Lib.hid (H3.out.next hb); replace HB := Lib.hid (Below.next HB.out hb); clear hb
 obtain ⟨c0, c1, c2, c3, c4⟩ := five H1.out
 obtain ⟨f0, f1, f2, f3, f4⟩ := thaw H3.out
 obtain ⟨e0, e1, e2, e3, e4⟩ := five H3.out
 have g2 := H1.out.f 2 _ rfl
 go_wp2_with (fail)
 have h3 := H3.out.put (show w.heap.size ≠ w.heap.size + 1 + 1 by omega) 2 (.string s')
 have hb3 := HB.out.setCell (p := ⟨w.heap.size, 2, none⟩) (Nat.le_refl _) (.string s')
 clear c0 c1 c2 c3 c4 f0 f1 f2 f3 f4 e0 e1 e2 e3 e4 g2
 refine fin5 (P := bodyPost _ _ _ _ _) h3 hb3 (by omega) _ _ _ _ _ fun w4 hx hy _ => ?_
 obtain ⟨c0, c1, c2, c3, c4⟩ := five hx
 exact bodyPost_ret (v := .agg #[.int .i64 k', .int .i64 n', .string s', .int .i64 x', .int .i64 y']) (by simp [results, Tryz.results51, go_sem, c0, c1, c2, c3, c4]) rfl ⟨rfl, hy⟩
set_option maxHeartbeats 1000000 in
theorem choose_a (c : ByteArray) (k n x y k' n' x' y' : Int) (s s' : ByteArray) (hs : s.size ≤ 281474976710656) (w : World) (h : (decide (ord ⟨k, n, s.data.toList, x, y⟩ ⟨k', n', s'.data.toList, x', y'⟩ < 0) == (c.toList == [109, 97, 120])) = false) :
 Calls Tryz.prog 51 #[.string c, .agg #[.int .i64 k, .int .i64 n, .string s, .int .i64 x, .int .i64 y], .agg #[.int .i64 k', .int .i64 n', .string s', .int .i64 x', .int .i64 y']] w (Gives (.agg #[.int .i64 k, .int .i64 n, .string s, .int .i64 x, .int .i64 y]) w) := by
 have HO := Lib.hid (order_val k n x y k' n' x' y' s s')
 have HC := Lib.hid (fun w1 => clone_any s w1 hs)
 generalize ord ⟨k, n, s.data.toList, x, y⟩ ⟨k', n', s'.data.toList, x', y'⟩ = o at *
 obtain ⟨D1, D2, D3, hb0⟩ := two_boxes w 45 [.int .i64 k, .int .i64 n, .string s, .int .i64 x, .int .i64 y] [.int .i64 k', .int .i64 n', .string s', .int .i64 x', .int .i64 y'] [.int .i64 0, .int .i64 0, .string ⟨#[]⟩, .int .i64 0, .int .i64 0]
 have H1 := Lib.hid D1; have H2 := Lib.hid D2; have H3 := Lib.hid D3; have HB := Lib.hid hb0; clear D1 D2 D3 hb0
 go_enter Tryz.func51, Tryz.ntmps51
 go_wp2_with (fail)
 refine (HO.out _).mono ?_
 rintro e w1 ⟨rfl, hb⟩
 replace H1 := Lib.hid (H1.out.next hb); replace H2 := Lib.hid (H2.out.next hb); replace H3 := Lib.hid (H3.out.next hb); replace HB := Lib.hid (Below.next HB.out hb); clear hb
 obtain ⟨c0, c1, c2, c3, c4⟩ := five H1.out
 go_wp2_with (fail)
 clear c0 c1 c2 c3 c4
 refine (HC.out _).mono ?_
 rintro e w3 ⟨rfl, hb⟩
 replace H1 := Lib.hid (H1.out.next hb); replace H2 := Lib.hid (H2.out.next hb); replace H3 := Lib.hid (H3.out.next hb); replace HB := Lib.hid (Below.next HB.out hb); clear hb
 obtain ⟨c0, c1, c2, c3, c4⟩ := five H1.out
 obtain ⟨f0, f1, f2, f3, f4⟩ := thaw H3.out
 obtain ⟨e0, e1, e2, e3, e4⟩ := five H3.out
 have g2 := H1.out.f 2 _ rfl
 go_wp2_with (fail)
 have h3 := H3.out.put (show w.heap.size ≠ w.heap.size + 1 + 1 by omega) 2 (.string s)
 have hb3 := HB.out.setCell (p := ⟨w.heap.size, 2, none⟩) (Nat.le_refl _) (.string s)
 clear c0 c1 c2 c3 c4 f0 f1 f2 f3 f4 e0 e1 e2 e3 e4 g2
 refine fin5 (P := bodyPost _ _ _ _ _) h3 hb3 (by omega) _ _ _ _ _ fun w4 hx hy _ => ?_
 obtain ⟨c0, c1, c2, c3, c4⟩ := five hx
 exact bodyPost_ret (v := .agg #[.int .i64 k, .int .i64 n, .string s, .int .i64 x, .int .i64 y]) (by simp [results, Tryz.results51, go_sem, c0, c1, c2, c3, c4]) rfl ⟨rfl, hy⟩
theorem sum_text (c : ByteArray) : (c.toList == [115, 117, 109]) = decide (c.data.toList = wSum) := by
 rw [ByteArray.toList_eq, Bool.eq_iff_iff, beq_iff_eq, decide_eq_true_iff]; rfl
set_option maxRecDepth 100000 in
theorem numbers_any (c : ByteArray) (a b : Int) (ha : -9007199254740992 ≤ a ∧ a ≤ 9007199254740992) (hb : -9007199254740992 ≤ b ∧ b ≤ 9007199254740992) (w : World) :
 Calls Tryz.prog 52 #[.string c, .int .i64 a, .int .i64 b] w (Gives (.int .i64 (if c.data.toList = wSum then rg (a + b) 9007199254740992 else (Int.gcd a b : Int))) w) := by
 have hq := sum_text c
 by_cases h : c.data.toList = wSum
 · rw [if_pos h]
   rw [decide_eq_true h] at hq
   have HC := Lib.hid (fun w => round_any (a + b) 9007199254740992 (by decide) (by omega) w)
   have h1 : wrap64 (a + b) = a + b := IntWalk.wrap64_in _ (by omega)
   clear h ha hb
   go_enter Tryz.func52, Tryz.ntmps52
   go_wp2_with (fail)
   refine (HC.out _).mono ?_
   rintro e w1 ⟨rfl, hb⟩
   have HB := Lib.hid hb; clear hb
   go_wp2_with (fail)
   go_ret
   exact ⟨rfl, HB.out⟩
 · rw [if_neg h]
   rw [decide_eq_false h] at hq
   have HC := Lib.hid (fun w => common_any a b ha hb w)
   generalize (Int.gcd a b : Int) = g at *
   clear h ha hb
   go_enter Tryz.func52, Tryz.ntmps52
   go_wp2_with (fail)
   refine (HC.out _).mono ?_
   rintro e w1 ⟨rfl, hb⟩
   have HB := Lib.hid hb; clear hb
   go_wp2_with (fail)
   go_ret
   exact ⟨rfl, HB.out⟩
set_option maxRecDepth 100000 in
set_option maxHeartbeats 1000000 in
theorem spots_sum (c : ByteArray) (x y u v : Int) (hq : (c.toList == [115, 117, 109]) = true) (hx : -16777216 ≤ x ∧ x ≤ 16777216) (hy : -16777216 ≤ y ∧ y ≤ 16777216) (hu : -16777216 ≤ u ∧ u ≤ 16777216) (hv : -16777216 ≤ v ∧ v ≤ 16777216) (w : World) :
 Calls Tryz.prog 53 #[.string c, .agg #[.int .i64 x, .int .i64 y], .agg #[.int .i64 u, .int .i64 v]] w (Gives (.agg #[.int .i64 (rg (x + u) 16777216), .int .i64 (rg (y + v) 16777216)]) w) := by
 have h1 : wrap64 (x + u) = x + u := IntWalk.wrap64_in _ (by omega)
 have h2 : wrap64 (y + v) = y + v := IntWalk.wrap64_in _ (by omega)
 have HX := Lib.hid (fun w => round_any (x + u) 16777216 (by decide) (by omega) w)
 have HY := Lib.hid (fun w => round_any (y + v) 16777216 (by decide) (by omega) w)
 generalize rg (x + u) 16777216 = p at *
 generalize rg (y + v) 16777216 = q at *
 clear hx hy hu hv
 obtain ⟨kb, o1, o2, o3⟩ := boxes3 43 (.int .i64 x) (.int .i64 y) (.int .i64 u) (.int .i64 v) (.int .i64 0) (.int .i64 0) w
 have HB := Lib.hid kb; have D1 := Lib.hid o1; have D2 := Lib.hid o2; have D3 := Lib.hid o3
 clear kb o1 o2 o3
 go_enter Tryz.func53, Tryz.ntmps53
 go_wp2_with (fail)
 generalize ((w.alloc (.cells #[.int .i64 x, .int .i64 y] 43)).alloc (.cells #[.int .i64 u, .int .i64 v] 43)).alloc (.cells #[.int .i64 0, .int .i64 0] 43) = v1 at *
 have d0 := fun r : Over v1 => (D1.out.over r).c0
 have d1 := fun r : Over v1 => (D1.out.over r).c1
 have e0 := fun r : Over v1 => (D2.out.over r).c0
 have e1 := fun r : Over v1 => (D2.out.over r).c1
 refine wp_over_tail 13 (by kernel_rfl) (by kernel_rfl) ?_
 simp only [List.take_succ_cons, List.take_zero, List.drop_succ_cons, List.drop_zero]
 repeat (go_big_quiet_step (first | fail | with_reducible exact over_gives _ (HX.out _) | with_reducible exact over_gives _ (HY.out _)))
 refine wpQuiet_nil ?_
 rintro w2 ⟨⟨w2, hb⟩, rfl⟩
 have E3 := D3.out.next hb
 replace HB := Lib.hid (Below.next HB.out hb)
 have hz := E3.lt
 have K3 := Lib.hid E3
 obtain ⟨c0, c1, f0, f1⟩ := E3
 clear hb d0 d1 e0 e1 D1 D2 D3
 go_wp2_with (fail)
 clear c0 c1 f0 f1
 refine fin2 (P := bodyPost _ _ _ _ _) K3.out HB.out (by omega) _ _ fun w4 hx hy => ?_
 obtain ⟨c0, c1, _, _⟩ := hx
 exact bodyPost_ret (v := .agg #[.int .i64 p, .int .i64 q]) (by simp [results, Tryz.results53, go_sem, c0, c1]) rfl ⟨rfl, hy⟩
set_option maxHeartbeats 1000000 in
theorem spots_gcd (c : ByteArray) (x y u v : Int) (hq : (c.toList == [115, 117, 109]) = false) (ha : rb ⟨x, y⟩ = true) (hb : rb ⟨u, v⟩ = true) (w : World) :
 Calls Tryz.prog 53 #[.string c, .agg #[.int .i64 x, .int .i64 y], .agg #[.int .i64 u, .int .i64 v]] w (Gives (.agg #[.int .i64 (Pt.cg ⟨x, y⟩ ⟨u, v⟩).x, .int .i64 (Pt.cg ⟨x, y⟩ ⟨u, v⟩).y]) w) := by
 have HC := Lib.hid (fun w => common_yes ha hb w)
 generalize (Pt.cg ⟨x, y⟩ ⟨u, v⟩).x = p at *
 generalize (Pt.cg ⟨x, y⟩ ⟨u, v⟩).y = q at *
 clear ha hb
 obtain ⟨kb, o1, o2, o3⟩ := boxes3 43 (.int .i64 x) (.int .i64 y) (.int .i64 u) (.int .i64 v) (.int .i64 0) (.int .i64 0) w
 have HB := Lib.hid kb; have D1 := Lib.hid o1; have D2 := Lib.hid o2; have D3 := Lib.hid o3
 clear kb o1 o2 o3
 go_enter Tryz.func53, Tryz.ntmps53
 go_wp2_with (fail)
 generalize ((w.alloc (.cells #[.int .i64 x, .int .i64 y] 43)).alloc (.cells #[.int .i64 u, .int .i64 v] 43)).alloc (.cells #[.int .i64 0, .int .i64 0] 43) = v1 at *
 refine (HC.out _).mono ?_
 rintro e w2 ⟨rfl, hb⟩
 have E3 := D3.out.next hb
 have hz := E3.lt
 have K3 := Lib.hid ((E3.set (.int .i64 p) (.int .i64 q)).old (.cells #[.int .i64 p, .int .i64 q] 43))
 have HB2 := Lib.hid ((((Below.next HB.out hb).setCell (p := ⟨w.heap.size + 1 + 1, 0, none⟩) (by show _ ≤ w.heap.size + 1 + 1; omega) (.int .i64 p)).setCell (p := ⟨w.heap.size + 1 + 1, 1, none⟩) (by show _ ≤ w.heap.size + 1 + 1; omega) (.int .i64 q)).alloc (by simp; have := HB.out.size; have := hb.size; omega) (.cells #[.int .i64 p, .int .i64 q] 43))
 obtain ⟨c0, c1, f0, f1⟩ := E3
 clear hb D1 D2 D3 HB
 go_wp2_with (fail)
 clear c0 c1 f0 f1
 obtain ⟨c0, c1, _, _⟩ := K3.out
 have hy := HB2.out
 generalize ((w2.setCell ⟨w.heap.size + 1 + 1, 0, none⟩ (.int .i64 p)).setCell ⟨w.heap.size + 1 + 1, 1, none⟩ (.int .i64 q)).alloc (.cells #[.int .i64 p, .int .i64 q] 43) = w4 at *
 exact bodyPost_ret (v := .agg #[.int .i64 p, .int .i64 q]) (by simp [results, Tryz.results53, go_sem, c0, c1]) rfl ⟨rfl, hy⟩
end Go.Proofs.YtimllihegnokeaaGreatDoor.Jo

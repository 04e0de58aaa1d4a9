/-
  The texts of this claim, EvalChoice alone, 1: EvLocal, EvNam, EvNamX, EvIf, EvApp, EvFar.
-/
import Derived.Test.YtcdjincaedpodaaGreatDoorLot7
import Derived.Deep.Upon
import Derived.Laws.AppendOwn
/-
  What an expression comes to hangs on its own nodes alone, and on no depth; the names that it doesn't name say nothing; pairs are appended. Plain.
-/
namespace Go.Proofs.YtcdjincaedpodaaGreatDoor.Ev
open Go.Proofs.YtcdjincaedpodaaGreatDoor.Ov Go.Proofs.YtcdjincaedpodaaGreatDoor.Tp Go.Proofs.YtcdjincaedpodaaGreatDoor.Ga Go.Proofs.YtcdjincaedpodaaGreatDoor.Va Go.Proofs.YtcdjincaedpodaaGreatDoor.Ex

theorem ex_app {d : Nat} {l r : List No} (h : ex d l = some r) (s : List No) : ex d (l ++ s) = some (r ++ s) := by
  obtain ⟨c, hc, _, h2⟩ := ex_takes d l r h
  rw [hc, List.append_assoc]; exact h2 _
theorem nx_app {d : Nat} {r r' : List No} (h : ex d r = some r') (hd : d ≤ 25) (s : List No) : nx (r ++ s) = nx r ++ s := by rw [nx_of h hd, nx_of (ex_app h s) hd]
theorem va_local {d : Nat} {f g : List No → M Va} {s : List No} (h : ∀ l r, ex d l = some r → g (l ++ s) = f l) (hd : d ≤ 25) : ∀ (k : Nat) (l r : List No) (acc : List Va), it (ex d) k l = some r → va g k (l ++ s) acc = va f k l acc
  | 0, _, _, _, _ => rfl
  | k + 1, l, r, acc, hi => by
    rw [it_succ] at hi
    obtain ⟨r1, h1, h2⟩ := Option.bind_eq_some_iff.1 hi
    rw [va_succ, va_succ, h _ _ h1, nx_app h1 hd]
    congr 1
    funext v
    rw [nx_of h1 hd]
    exact va_local h hd k r1 r _ h2
theorem body_local {d : Nat} {f g : List No → M Va} {s : List No} (h : ∀ l r, ex d l = some r → g (l ++ s) = f l) (hd : d ≤ 25) (n : No) {l r : List No} (hi : it (ex d) (pa n.o) l = some r) : body g n (l ++ s) = body f n l := by
  unfold body
  split
  · rfl
  split
  · rfl
  split
  · rename_i h11
    rw [h11] at hi
    change it (ex d) 3 l = some r at hi
    rw [it_succ] at hi
    obtain ⟨r1, e1, hi⟩ := Option.bind_eq_some_iff.1 hi
    rw [it_succ] at hi
    obtain ⟨r2, e2, hi⟩ := Option.bind_eq_some_iff.1 hi
    rw [it_succ] at hi
    obtain ⟨r3, e3, hi⟩ := Option.bind_eq_some_iff.1 hi
    rw [h _ _ e1, nx_app e1 hd, nx_of e1 hd, nx_app e2 hd, nx_of e2 hd, h _ _ e2, h _ _ e3]
  split
  · rename_i h28
    rw [h28] at hi
    change it (ex d) 2 l = some r at hi
    rw [it_succ] at hi
    obtain ⟨r1, e1, hi⟩ := Option.bind_eq_some_iff.1 hi
    rw [it_succ] at hi
    obtain ⟨r2, e2, hi⟩ := Option.bind_eq_some_iff.1 hi
    rw [h _ _ e1, nx_app e1 hd, nx_of e1 hd, h _ _ e2]
  split
  · rename_i h29
    rw [h29] at hi
    change it (ex d) 2 l = some r at hi
    rw [it_succ] at hi
    obtain ⟨r1, e1, hi⟩ := Option.bind_eq_some_iff.1 hi
    rw [it_succ] at hi
    obtain ⟨r2, e2, hi⟩ := Option.bind_eq_some_iff.1 hi
    rw [h _ _ e1, nx_app e1 hd, nx_of e1 hd, h _ _ e2]
  · rw [va_local h hd _ _ _ _ hi]
/-- As deep as may be, and whatever is behind. -/
theorem ev_local : ∀ (d : Nat) (e : Nat) (l r s : List No), ex d l = some r → d ≤ e → d ≤ 25 → ev e (l ++ s) = ev d l
  | 0, _, _, _, _, h, _, _ => by cases h
  | d + 1, 0, _, _, _, _, h, _ => absurd h (by omega)
  | d + 1, e + 1, [], _, _, h, _, _ => by cases h
  | d + 1, e + 1, n :: t, r, s, h, he, hd => by
    rw [ex_cons] at h
    split at h
    · rw [List.cons_append, ev_cons, ev_cons]
      congr 1
      funext _
      exact body_local (fun l r h1 => ev_local d e l r s h1 (by omega) (by omega)) (by omega) n h
    · cases h
theorem ev_deep {d e : Nat} {l r : List No} (h : ex d l = some r) (he : d ≤ e) (hd : d ≤ 25) : ev e l = ev d l := by
  have := ev_local d e l r [] h he hd
  rwa [List.append_nil] at this
/-! ### Pairs ahead -/
def St.ahead (p : List (List UInt8 × Va)) (S : St) : St := { S with out := p ++ S.out }
/-- Pairs that lay there ahead: nothing else, but there may be too many. -/
def Pre {α : Type} (f : M α) : Prop := ∀ S n, (∃ a S1 m, f S n = .ok a S1 m ∧ S.out.length ≤ S1.out.length ∧ (∀ p, p.length + S1.out.length ≤ 64 → f (S.ahead p) n = .ok a (S1.ahead p) m) ∧ ∀ p, p.length + S.out.length ≤ 64 → 64 < p.length + S1.out.length → f (S.ahead p) n = .er 22) ∨
  (∃ x, f S n = .er x ∧ ∀ p, p.length + S.out.length ≤ 64 → f (S.ahead p) n = .er x ∨ f (S.ahead p) n = .er 22)
theorem Pre.still {α : Type} {f : M α} (h : ∀ S n, (∃ a S1 m, f S n = .ok a S1 m ∧ S1.out = S.out ∧ ∀ p, f (S.ahead p) n = .ok a (S1.ahead p) m) ∨ ∃ x, f S n = .er x ∧ ∀ p, f (S.ahead p) n = .er x) : Pre f := by
  intro S n
  rcases h S n with ⟨a, S1, m, e, e1, e2⟩ | ⟨x, e, e1⟩
  · exact .inl ⟨a, S1, m, e, by rw [e1]; exact Nat.le_refl _, fun p _ => e2 p, fun p h1 h2 => by rw [e1] at h2; omega⟩
  · exact .inr ⟨x, e, fun p _ => .inl (e1 p)⟩
theorem Pre.bnd {α β : Type} {f : M α} {g : α → M β} (hf : Pre f) (hg : ∀ a, Pre (g a)) : Pre (bnd f g) := by
  intro S n
  rcases hf S n with ⟨a, S1, m, e, e0, e1, e2⟩ | ⟨x, e, e1⟩
  · rcases hg a S1 m with ⟨b, S2, k, q, q0, q1, q2⟩ | ⟨x, q, q1⟩
    · refine .inl ⟨b, S2, k, by rw [bnd_ok e]; exact q, by omega, fun p hp => ?_, fun p h1 h2 => ?_⟩
      · rw [bnd_ok (e1 p (by omega))]; exact q1 p hp
      · by_cases h : p.length + S1.out.length ≤ 64
        · rw [bnd_ok (e1 p h)]; exact q2 p h h2
        · exact bnd_er (e2 p h1 (by omega))
    · refine .inr ⟨x, by rw [bnd_ok e]; exact q, fun p hp => ?_⟩
      by_cases h : p.length + S1.out.length ≤ 64
      · rw [bnd_ok (e1 p h)]; exact q1 p h
      · exact .inr (bnd_er (e2 p hp (by omega)))
  · refine .inr ⟨x, bnd_er e, fun p hp => ?_⟩
    rcases e1 p hp with h | h
    · exact .inl (bnd_er h)
    · exact .inr (bnd_er h)
theorem Pre.ret {α : Type} (a : α) : Pre (ret a) := .still fun S n => .inl ⟨a, S, n, rfl, rfl, fun _ => rfl⟩
theorem Pre.fail {α : Type} (x : Int) : Pre (fail x : M α) := .still fun _ _ => .inr ⟨x, rfl, fun _ => rfl⟩
theorem Pre.nmd (k : Int) : Pre (nmd k) := .still fun S n => .inl ⟨_, S, n, rfl, rfl, fun _ => rfl⟩
theorem Pre.setI (k : Int) : Pre (setI k) := .still fun _ n => .inl ⟨(), _, n, rfl, rfl, fun _ => rfl⟩
theorem Pre.tick : Pre tick := .still fun S n => by
  cases n with
  | zero => exact .inr ⟨15, rfl, fun _ => rfl⟩
  | succ n => exact .inl ⟨(), S, n, rfl, rfl, fun _ => rfl⟩
theorem Pre.lift (x : Int ⊕ Va) : Pre (lift x) := by
  cases x with
  | inl e => exact .fail e
  | inr v => exact .ret v
theorem Pre.emit (k : List UInt8) (v : Va) : Pre (emitM k v) := by
  intro S n
  by_cases h : 64 ≤ S.out.length
  · exact .inr ⟨22, by unfold emitM; rw [if_pos h], fun p hp => .inl (by unfold emitM St.ahead; dsimp only; rw [if_pos (by rw [List.length_append]; omega)])⟩
  · refine .inl ⟨v, _, n, by unfold emitM; rw [if_neg h], by rw [List.length_append]; omega, fun p hp => ?_, fun p hp hq => ?_⟩
    · rw [List.length_append] at hp
      unfold emitM St.ahead
      dsimp only
      rw [if_neg (by rw [List.length_append]; simp at hp; omega), List.append_assoc]
    · rw [List.length_append] at hq
      unfold emitM St.ahead
      dsimp only
      rw [if_pos (by rw [List.length_append]; simp at hq; omega)]
theorem Pre.ite {α : Type} {c : Prop} [Decidable c] {f g : M α} (hf : Pre f) (hg : Pre g) : Pre (if c then f else g) := by
  split
  · exact hf
  · exact hg
theorem Pre.withI {f : M Va} (h : Pre f) : Pre (withI f) := by
  intro S n
  rcases h S n with ⟨a, S1, m, e, e0, e1, e2⟩ | ⟨x, e, e1⟩
  · exact .inl ⟨a, { S1 with i := S.i }, m, by unfold Ev.withI; rw [e], e0, fun p hp => by unfold Ev.withI; rw [e1 p hp]; rfl, fun p hp hq => by unfold Ev.withI; rw [e2 p hp hq]⟩
  · refine .inr ⟨x, by unfold Ev.withI; rw [e], fun p hp => ?_⟩
    rcases e1 p hp with h | h
    · exact .inl (by unfold Ev.withI; rw [h])
    · exact .inr (by unfold Ev.withI; rw [h])
theorem Pre.withIt {v : Va} {f : M Va} (h : Pre f) : Pre (withIt v f) := by
  intro S n
  rcases h { S with it := v } n with ⟨a, S1, m, e, e0, e1, e2⟩ | ⟨x, e, e1⟩
  · exact .inl ⟨a, { S1 with it := S.it }, m, by unfold Ev.withIt; rw [e], e0, fun p hp => by have := e1 p hp; unfold St.ahead at this ⊢; unfold Ev.withIt; dsimp only at this ⊢; rw [this], fun p hp hq => by have := e2 p hp hq; unfold St.ahead at this ⊢; unfold Ev.withIt; dsimp only at this ⊢; rw [this]⟩
  · refine .inr ⟨x, by unfold Ev.withIt; rw [e], fun p hp => ?_⟩
    rcases e1 p hp with h | h
    · exact .inl (by unfold St.ahead at h ⊢; unfold Ev.withIt; dsimp only at h ⊢; rw [h])
    · exact .inr (by unfold St.ahead at h ⊢; unfold Ev.withIt; dsimp only at h ⊢; rw [h])
theorem Pre.ap (o : Int) (l : List Va) : Pre (ap o l) := by
  unfold Ev.ap
  exact .ite (.fail _) (.ite (.ite (.fail _) (.emit _ _)) (.lift _))
theorem Pre.lp {g : M Va} (h : Pre g) : ∀ (t : Nat) (k : Int) (v : Va), Pre (lp g t k v)
  | 0, _, v => .ret v
  | t + 1, k, v => by rw [lp_succ]; exact (Pre.setI k).bnd fun _ => h.bnd fun v => Pre.lp h t (k + 1) v
theorem Pre.va {f : List No → M Va} (h : ∀ r, Pre (f r)) : ∀ (k : Nat) (r : List No) (acc : List Va), Pre (va f k r acc)
  | 0, _, _ => .ret _
  | k + 1, r, acc => by rw [va_succ]; exact (h r).bnd fun v => Pre.va h k _ _
theorem Pre.body {f : List No → M Va} (h : ∀ r, Pre (f r)) (n : No) (r : List No) : Pre (body f n r) := by
  unfold Ev.body
  exact .ite (.ret _) (.ite (.nmd _) (.ite ((h r).bnd fun a => .ite (.fail _) (.ite (h _) (h _))) (.ite ((h r).bnd fun a => .ite (.fail _) (.ite (.fail _) (.withI (.lp (h _) _ _ _)))) (.ite ((h r).bnd fun a => .withIt (h _)) ((Pre.va h _ _ _).bnd fun l => .ap _ l)))))
theorem ev_pre : ∀ (d : Nat) (l : List No), Pre (ev d l)
  | 0, _ => .fail 15
  | _ + 1, [] => .fail 15
  | d + 1, n :: r => by rw [ev_cons]; exact Pre.tick.bnd fun _ => .body (ev_pre d) n r
/-! ### What stands for names stays as it was -/
def Kee {α : Type} (f : M α) : Prop := ∀ S n a S1 m, f S n = .ok a S1 m → S1 = { S with out := S1.out }
theorem Kee.bnd {α β : Type} {f : M α} {g : α → M β} (hf : Kee f) (hg : ∀ a, Kee (g a)) : Kee (bnd f g) := by
  intro S n b S1 m e
  unfold Ev.bnd at e
  cases hc : f S n with
  | er x => rw [hc] at e; cases e
  | ok a S2 n2 =>
    rw [hc] at e
    have h1 := hf _ _ _ _ _ hc
    have h2 := hg a _ _ _ _ _ e
    rw [h2, h1]
theorem Kee.ret {α : Type} (a : α) : Kee (ret a) := by
  intro S n b S1 m e; injection e with _ e2 _; subst e2; rfl
theorem Kee.fail {α : Type} (x : Int) : Kee (fail x : M α) := by intro S n b S1 m e; cases e
theorem Kee.nmd (k : Int) : Kee (nmd k) := by
  intro S n b S1 m e; injection e with _ e2 _; subst e2; rfl
theorem Kee.tick : Kee tick := by
  intro S n b S1 m e
  cases n with
  | zero => cases e
  | succ n => injection e with _ e2 _; subst e2; rfl
theorem Kee.lift (x : Int ⊕ Va) : Kee (lift x) := by
  cases x with
  | inl e => exact .fail e
  | inr v => exact .ret v
theorem Kee.emit (k : List UInt8) (v : Va) : Kee (emitM k v) := by
  intro S n b S1 m e
  unfold emitM at e
  split at e
  · cases e
  · injection e with _ e2 _; subst e2; rfl
theorem Kee.ite {α : Type} {c : Prop} [Decidable c] {f g : M α} (hf : Kee f) (hg : Kee g) : Kee (if c then f else g) := by
  split
  · exact hf
  · exact hg
/-- But for i. -/
def KeeI {α : Type} (f : M α) : Prop := ∀ S n a S1 m, f S n = .ok a S1 m → S1 = { S with out := S1.out, i := S1.i }
theorem Kee.toI {α : Type} {f : M α} (h : Kee f) : KeeI f := fun S n a S1 m e => by
  have := h S n a S1 m e
  rw [this]
theorem KeeI.bnd {α β : Type} {f : M α} {g : α → M β} (hf : KeeI f) (hg : ∀ a, KeeI (g a)) : KeeI (bnd f g) := by
  intro S n b S1 m e
  unfold Ev.bnd at e
  cases hc : f S n with
  | er x => rw [hc] at e; cases e
  | ok a S2 n2 =>
    rw [hc] at e
    have h1 := hf _ _ _ _ _ hc
    have h2 := hg a _ _ _ _ _ e
    rw [h2, h1]
theorem KeeI.setI (k : Int) : KeeI (setI k) := by
  intro S n b S1 m e; injection e with _ e2 _; subst e2; rfl
theorem KeeI.lp {g : M Va} (h : Kee g) : ∀ (t : Nat) (k : Int) (v : Va), KeeI (lp g t k v)
  | 0, _, v => (Kee.ret v).toI
  | t + 1, k, v => by rw [lp_succ]; exact (KeeI.setI k).bnd fun _ => h.toI.bnd fun v => KeeI.lp h t (k + 1) v
theorem Kee.withI {f : M Va} (h : KeeI f) : Kee (withI f) := by
  intro S n b S1 m e
  unfold Ev.withI at e
  cases hc : f S n with
  | er x => rw [hc] at e; cases e
  | ok a S2 n2 =>
    rw [hc] at e
    injection e with _ e2 _
    have h1 := h _ _ _ _ _ hc
    rw [← e2, h1]
theorem Kee.withIt {v : Va} {f : M Va} (h : Kee f) : Kee (withIt v f) := by
  intro S n b S1 m e
  unfold Ev.withIt at e
  cases hc : f { S with it := v } n with
  | er x => rw [hc] at e; cases e
  | ok a S2 n2 =>
    rw [hc] at e
    injection e with _ e2 _
    have h1 := h _ _ _ _ _ hc
    rw [← e2, h1]
theorem Kee.ap (o : Int) (l : List Va) : Kee (ap o l) := by
  unfold Ev.ap
  exact .ite (.fail _) (.ite (.ite (.fail _) (.emit _ _)) (.lift _))
theorem Kee.va {f : List No → M Va} (h : ∀ r, Kee (f r)) : ∀ (k : Nat) (r : List No) (acc : List Va), Kee (va f k r acc)
  | 0, _, _ => .ret _
  | k + 1, r, acc => by rw [va_succ]; exact (h r).bnd fun v => Kee.va h k _ _
theorem Kee.body {f : List No → M Va} (h : ∀ r, Kee (f r)) (n : No) (r : List No) : Kee (body f n r) := by
  unfold Ev.body
  exact .ite (.ret _) (.ite (.nmd _) (.ite ((h r).bnd fun a => .ite (.fail _) (.ite (h _) (h _))) (.ite ((h r).bnd fun a => .ite (.fail _) (.ite (.fail _) (.withI (.lp (h _) _ _ _)))) (.ite ((h r).bnd fun a => .withIt (h _)) ((Kee.va h _ _ _).bnd fun l => .ap _ l)))))
theorem ev_kee : ∀ (d : Nat) (l : List No), Kee (ev d l)
  | 0, _ => .fail 15
  | _ + 1, [] => .fail 15
  | d + 1, n :: r => by rw [ev_cons]; exact Kee.tick.bnd fun _ => .body (ev_kee d) n r
end Go.Proofs.YtcdjincaedpodaaGreatDoor.Ev
/-
  What stands for a name that an expression doesn't name says nothing. Plain.
-/
namespace Go.Proofs.YtcdjincaedpodaaGreatDoor.Ev
open Go.Proofs.YtcdjincaedpodaaGreatDoor.Ov Go.Proofs.YtcdjincaedpodaaGreatDoor.Tp Go.Proofs.YtcdjincaedpodaaGreatDoor.Ga Go.Proofs.YtcdjincaedpodaaGreatDoor.Va Go.Proofs.YtcdjincaedpodaaGreatDoor.Ex

/-- Something else stands for the first three names. -/
def St.alt (k : List UInt8) (v c : Va) (S : St) : St := { S with key := k, val := v, acc := c }
def Rs.alt {α : Type} (k : List UInt8) (v c : Va) : Rs α → Rs α
  | .er x => .er x
  | .ok a S n => .ok a (S.alt k v c) n
section
variable {K K' : List UInt8} {V C V' C' : Va}
def Was (K : List UInt8) (V C : Va) (S : St) : Prop := S.key = K ∧ S.val = V ∧ S.acc = C
def Nam {α : Type} (K : List UInt8) (V C : Va) (K' : List UInt8) (V' C' : Va) (f : M α) : Prop := ∀ S n, Was K V C S → f (S.alt K' V' C') n = (f S n).alt K' V' C' ∧ ∀ a S1 m, f S n = .ok a S1 m → Was K V C S1
theorem Nam.bnd {α β : Type} {f : M α} {g : α → M β} (hf : Nam K V C K' V' C' f) (hg : ∀ a, Nam K V C K' V' C' (g a)) : Nam K V C K' V' C' (bnd f g) := by
  intro S n h
  obtain ⟨h1, h2⟩ := hf S n h
  unfold Ev.bnd
  rw [h1]
  cases hc : f S n with
  | er x => exact ⟨rfl, fun a S1 m e => by cases e⟩
  | ok a S2 n2 => exact hg a S2 n2 (h2 _ _ _ hc)
theorem Nam.ret {α : Type} (a : α) : Nam K V C K' V' C' (ret a) := fun S n h => ⟨rfl, fun b S1 m e => by injection e with _ e2 _; subst e2; exact h⟩
theorem Nam.fail {α : Type} (x : Int) : Nam K V C K' V' C' (fail x : M α) := fun S n h => ⟨rfl, fun b S1 m e => by cases e⟩
theorem Nam.setI (k : Int) : Nam K V C K' V' C' (setI k) := fun S n h => ⟨rfl, fun b S1 m e => by injection e with _ e2 _; subst e2; exact h⟩
theorem Nam.tick : Nam K V C K' V' C' tick := fun S n h => by
  cases n with
  | zero => exact ⟨rfl, fun b S1 m e => by cases e⟩
  | succ n => exact ⟨rfl, fun b S1 m e => by injection e with _ e2 _; subst e2; exact h⟩
theorem Nam.lift (x : Int ⊕ Va) : Nam K V C K' V' C' (lift x) := by
  cases x with
  | inl e => exact .fail e
  | inr v => exact .ret v
theorem Nam.emit (k : List UInt8) (v : Va) : Nam K V C K' V' C' (emitM k v) := fun S n h => by
  unfold emitM
  by_cases hl : 64 ≤ S.out.length
  · rw [if_pos (show 64 ≤ (S.alt K' V' C').out.length from hl), if_pos hl]; exact ⟨rfl, fun b S1 m e => by cases e⟩
  · rw [if_neg (show ¬ 64 ≤ (S.alt K' V' C').out.length from hl), if_neg hl]; exact ⟨rfl, fun b S1 m e => by injection e with _ e2 _; subst e2; exact h⟩
theorem Nam.nmd {k : Int} (h0 : k = 0 → K = K') (h1 : k = 1 → V = V') (h2 : k = 2 → C = C') : Nam K V C K' V' C' (nmd k) := fun S n h => by
  refine ⟨?_, fun b S1 m e => by injection e with _ e2 _; subst e2; exact h⟩
  obtain ⟨rfl, rfl, rfl⟩ := h
  unfold Ev.nmd Rs.alt
  by_cases e0 : k = 0
  · rw [if_pos e0, if_pos e0]; unfold St.alt; rw [← h0 e0]
  by_cases e1 : k = 1
  · rw [if_neg e0, if_pos e1, if_neg e0, if_pos e1]; unfold St.alt; rw [← h1 e1]
  by_cases e2 : k = 2
  · rw [if_neg e0, if_neg e1, if_pos e2, if_neg e0, if_neg e1, if_pos e2]; unfold St.alt; rw [← h2 e2]
  · rw [if_neg e0, if_neg e1, if_neg e2, if_neg e0, if_neg e1, if_neg e2]; rfl
theorem Nam.ite {α : Type} {c : Prop} [Decidable c] {f g : M α} (hf : c → Nam K V C K' V' C' f) (hg : ¬ c → Nam K V C K' V' C' g) : Nam K V C K' V' C' (if c then f else g) := by
  split
  · exact hf ‹_›
  · exact hg ‹_›
theorem Nam.withI {f : M Va} (h : Nam K V C K' V' C' f) : Nam K V C K' V' C' (withI f) := fun S n hw => by
  obtain ⟨h1, h2⟩ := h S n hw
  unfold Ev.withI
  rw [h1]
  cases hc : f S n with
  | er x => exact ⟨rfl, fun a S1 m e => by cases e⟩
  | ok a S2 n2 => exact ⟨rfl, fun b S1 m e => by injection e with _ e2 _; subst e2; exact (h2 _ _ _ hc : Was K V C S2)⟩
theorem Nam.withIt {v : Va} {f : M Va} (h : Nam K V C K' V' C' f) : Nam K V C K' V' C' (withIt v f) := fun S n hw => by
  obtain ⟨h1, h2⟩ := h { S with it := v } n hw
  unfold Ev.withIt
  rw [show ({ (S.alt K' V' C') with it := v } : St) = St.alt K' V' C' { S with it := v } from rfl, h1]
  cases hc : f { S with it := v } n with
  | er x => exact ⟨rfl, fun a S1 m e => by cases e⟩
  | ok a S2 n2 => exact ⟨rfl, fun b S1 m e => by injection e with _ e2 _; subst e2; exact (h2 _ _ _ hc : Was K V C S2)⟩
theorem Nam.ap (o : Int) (l : List Va) : Nam K V C K' V' C' (ap o l) := by
  unfold Ev.ap
  exact .ite (fun _ => .fail _) fun _ => .ite (fun _ => .ite (fun _ => .fail _) fun _ => .emit _ _) fun _ => .lift _
theorem Nam.lp {g : M Va} (h : Nam K V C K' V' C' g) : ∀ (t : Nat) (k : Int) (v : Va), Nam K V C K' V' C' (lp g t k v)
  | 0, _, v => .ret v
  | t + 1, k, v => by rw [lp_succ]; exact (Nam.setI k).bnd fun _ => h.bnd fun v => Nam.lp h t (k + 1) v
end
theorem nx_mem {n : No} {r : List No} (h : n ∈ nx r) : n ∈ r := by
  unfold nx at h
  cases hc : ex 25 r with
  | none => rw [hc] at h; cases h
  | some r' =>
    rw [hc] at h
    obtain ⟨c, e, _⟩ := ex_takes 25 r r' hc
    rw [e]; exact List.mem_append_right _ h
/-- A list that names only what stands alike. -/
def Ali (K : List UInt8) (V C : Va) (K' : List UInt8) (V' C' : Va) (l : List No) : Prop := ∀ n ∈ l, n.o = 1 → (n.v.n = 0 → K = K') ∧ (n.v.n = 1 → V = V') ∧ (n.v.n = 2 → C = C')
section
variable {K K' : List UInt8} {V C V' C' : Va}
theorem Ali.nx {l : List No} (h : Ali K V C K' V' C' l) : Ali K V C K' V' C' (nx l) := fun n hn => h n (nx_mem hn)
theorem Nam.va {f : List No → M Va} (h : ∀ r, Ali K V C K' V' C' r → Nam K V C K' V' C' (f r)) : ∀ (k : Nat) (r : List No) (acc : List Va), Ali K V C K' V' C' r → Nam K V C K' V' C' (va f k r acc)
  | 0, _, _, _ => .ret _
  | k + 1, r, acc, hr => by rw [va_succ]; exact (h r hr).bnd fun v => Nam.va h k _ _ hr.nx
theorem Nam.body {f : List No → M Va} (h : ∀ r, Ali K V C K' V' C' r → Nam K V C K' V' C' (f r)) {n : No} {r : List No} (hr : Ali K V C K' V' C' (n :: r)) : Nam K V C K' V' C' (body f n r) := by
  have h1 : Ali K V C K' V' C' r := fun m hm => hr m (List.mem_cons_of_mem _ hm)
  unfold Ev.body
  exact .ite (fun _ => .ret _) fun _ => .ite (fun e => have g := hr n List.mem_cons_self e; .nmd g.1 g.2.1 g.2.2) fun _ => .ite (fun _ => (h r h1).bnd fun a => .ite (fun _ => .fail _) fun _ => .ite (fun _ => h _ h1.nx.nx) fun _ => h _ h1.nx) fun _ =>
    .ite (fun _ => (h r h1).bnd fun a => .ite (fun _ => .fail _) fun _ => .ite (fun _ => .fail _) fun _ => .withI (.lp (h _ h1.nx) _ _ _)) fun _ => .ite (fun _ => (h r h1).bnd fun a => .withIt (h _ h1.nx)) fun _ => (Nam.va h _ _ _ h1).bnd fun l => .ap _ l
theorem ev_nam : ∀ (d : Nat) (l : List No), Ali K V C K' V' C' l → Nam K V C K' V' C' (ev d l)
  | 0, _, _ => .fail 15
  | _ + 1, [], _ => .fail 15
  | d + 1, n :: r, h => by rw [ev_cons]; exact Nam.tick.bnd fun _ => .body (ev_nam d) h
end
end Go.Proofs.YtcdjincaedpodaaGreatDoor.Ev
/-
  Of two runs whose names differ in what isn't named: the same. Plain; and nodes beside a block that is written.
-/
namespace Go.Proofs.YtcdjincaedpodaaGreatDoor.Ev
open Go.ChangeShapes Go.WideShapes Go.ChangeAt Go.RowKit Go.Proofs.YtcdjincaedpodaaGreatDoor.Ov Go.Proofs.YtcdjincaedpodaaGreatDoor.Tp Go.Proofs.YtcdjincaedpodaaGreatDoor.Ga Go.Proofs.YtcdjincaedpodaaGreatDoor.Va Go.Proofs.YtcdjincaedpodaaGreatDoor.Ex

theorem ali_of {l : List No} {k k' : List UInt8} {v v' a a' : Va} (h0 : hasN l l.length 0 = true → k = k') (h1 : hasN l l.length 1 = true → v = v') (h2 : hasN l l.length 2 = true → a = a') : Ali k v a k' v' a' l := by
  intro n hn ho
  have h : ∀ i : Nat, n.v.n = (i : Int) → hasN l l.length i = true := fun i hi => by
    unfold hasN
    rw [List.take_length, List.any_eq_true]
    exact ⟨n, hn, by rw [ho, hi]; simp⟩
  exact ⟨fun e => h0 (h 0 e), fun e => h1 (h 1 e), fun e => h2 (h 2 e)⟩
/-- What both runs answer. -/
theorem names_two {l : List No} {k k' : List UInt8} {v v' a a' : Va} (hA : Rt l = true → Ali k v a k' v' a' l) (n : Int) :
    (rnX l k v a n = .er 1 ∨ rnX l k' v' a' n = .er 1) ∨ (∃ x, rnX l k v a n = .er x ∧ rnX l k' v' a' n = .er x) ∨ ∃ u S S' m, rnX l k v a n = .ok u S m ∧ rnX l k' v' a' n = .ok u S' m ∧ S'.out = S.out := by
  by_cases hc : Rt l = true ∧ rEnv k v a = true ∧ 0 ≤ n ∧ n ≤ 100000
  · by_cases hc' : rEnv k' v' a' = true
    · have h := (ev_nam 25 l (hA hc.1) (S0 k v a) n.toNat ⟨rfl, rfl, rfl⟩).1
      have e1 : rnX l k v a n = ev 25 l (S0 k v a) n.toNat := if_pos hc
      have e2 : rnX l k' v' a' n = ev 25 l (S0 k' v' a') n.toNat := if_pos ⟨hc.1, hc', hc.2.2⟩
      have e3 : ev 25 l (S0 k' v' a') n.toNat = (ev 25 l (S0 k v a) n.toNat).alt k' v' a' := h
      rw [e1, e2, e3]
      cases ev 25 l (S0 k v a) n.toNat with
      | er x => exact .inr (.inl ⟨x, rfl, rfl⟩)
      | ok u S m => exact .inr (.inr ⟨u, S, S.alt k' v' a', m, rfl, rfl, rfl⟩)
    · exact .inl (.inr (rnX_bad fun h => hc' h.2.1))
  · exact .inl (.inl (rnX_bad hc))
theorem nds_puts {w : World} {p : Option Addr} {l : List No} {C : Nat} (vs : List Value) : ∀ (o : Nat), Nds w p l → (∀ a, p = some a → a.block ≠ C) → Nds (putL w C o vs) p l := by
  intro o h hC hn
  obtain ⟨B, O, e, hc⟩ := h hn
  exact ⟨B, O, e, fun i j v hi hv => (cell_puts_other (fun e2 => hC _ e e2.symm) vs o).trans (hc i j v hi hv)⟩
theorem own_far {w : World} {base n c lo : Nat} {e : TypeId} {A : Option Addr} {xs : List Value} (h : w.ownsRow base e 6 (.slice A n c) n xs) (hb : lo < base) : ∀ a, A = some a → a.block ≠ lo := by
  intro a ha
  rcases h.2 with ⟨h1, _⟩ | ⟨g, cap, cur, hv, h1, _⟩
  · injection h1 with h2 _ _
    rw [h2] at ha; cases ha
  · injection hv with h2 _ _
    rw [h2] at ha
    obtain rfl := Option.some.inj ha
    show g ≠ lo
    omega
end Go.Proofs.YtcdjincaedpodaaGreatDoor.Ev
/-
  Of an if only the part that is chosen is done. Plain.
-/
namespace Go.Proofs.YtcdjincaedpodaaGreatDoor.Ev
open Go.Proofs.YtcdjincaedpodaaGreatDoor.Ov Go.Proofs.YtcdjincaedpodaaGreatDoor.Tp Go.Proofs.YtcdjincaedpodaaGreatDoor.Ga Go.Proofs.YtcdjincaedpodaaGreatDoor.Va Go.Proofs.YtcdjincaedpodaaGreatDoor.Ex

def ifL (a b c : List No) : List No := ⟨11, vz⟩ :: (a ++ (b ++ c))
theorem ex_head {d : Nat} {a s r : List No} (ha : ex 25 a = some []) (h : ex d (a ++ s) = some r) (hd : d ≤ 25) : r = s ∧ ex d a = some [] := by
  have h1 := ex_more h hd
  rw [ex_app ha s] at h1
  obtain rfl := Option.some.inj h1
  obtain ⟨p, hp, _, h2⟩ := ex_takes d _ _ h
  have e : a = p := by
    have : a ++ s = p ++ s := hp
    exact List.append_cancel_right this
  subst e
  exact ⟨rfl, by have := h2 []; rwa [List.append_nil] at this⟩
/-- The three parts of an if that is right. -/
theorem if_parts {a b c : List No} (ha : Rt a = true) (hb : Rt b = true) (hc : Rt c = true) (hl : Rt (ifL a b c) = true) : ex 24 a = some [] ∧ ex 24 b = some [] ∧ ex 24 c = some [] := by
  have h := (Rt_in hl).2
  unfold ifL at h
  rw [ex_cons] at h
  split at h
  · change it (ex 24) 3 _ = some [] at h
    rw [it_succ] at h
    obtain ⟨r1, e1, h1⟩ := Option.bind_eq_some_iff.1 h
    obtain ⟨q1, g1⟩ := ex_head (Rt_in ha).2 e1 (by decide)
    rw [q1, it_succ] at h1
    obtain ⟨r2, e2, h2⟩ := Option.bind_eq_some_iff.1 h1
    obtain ⟨q2, g2⟩ := ex_head (Rt_in hb).2 e2 (by decide)
    rw [q2, it_succ] at h2
    obtain ⟨r3, e3, h3⟩ := Option.bind_eq_some_iff.1 h2
    have e4 : ex 24 (c ++ []) = some r3 := by rw [List.append_nil]; exact e3
    obtain ⟨_, g3⟩ := ex_head (Rt_in hc).2 e4 (by decide)
    exact ⟨g1, g2, g3⟩
  · cases h
/-- The whole: the first part, then the chosen one. -/
theorem if_run {a b c : List No} (ha : Rt a = true) (hb : Rt b = true) (hc : Rt c = true) (hl : Rt (ifL a b c) = true) (S : St) (n : Nat) :
    ev 25 (ifL a b c) S (n + 1) = bnd (ev 25 a) (fun v => if v.k ≠ 0 then fail 13 else if v.n = 0 then ev 25 c else ev 25 b) S n := by
  obtain ⟨ga, gb, gc⟩ := if_parts ha hb hc hl
  have e : ev 25 (ifL a b c) S (n + 1) = body (ev 24) ⟨11, vz⟩ (a ++ (b ++ c)) S n := rfl
  rw [e]
  unfold body
  rw [if_neg (by decide), if_neg (by decide), if_pos rfl]
  rw [ev_local 24 24 a [] (b ++ c) ga (by decide) (by decide), ev_deep ga (e := 25) (by decide) (by decide),
    nx_of (ex_app ga (b ++ c)) (by decide), List.nil_append, nx_of (ex_app gb c) (by decide), List.nil_append,
    ev_local 24 24 b [] c gb (by decide) (by decide), ev_deep gb (e := 25) (by decide) (by decide), ev_deep gc (e := 25) (by decide) (by decide)]
theorem kee_S0 {l : List No} {k : List UInt8} {v a u : Va} {n m : Nat} {S : St} (h : ev 25 l (S0 k v a) n = .ok u S m) : S = (S0 k v a).ahead S.out := by
  have := ev_kee 25 l _ _ _ _ _ h
  rw [this]
  unfold St.ahead S0
  simp
/-- What the three runs answer. -/
theorem choice_three {a b c : List No} {k : List UInt8} {v w u : Va} {n m : Nat} {S : St} (ha : Rt a = true) (hb : Rt b = true) (hc : Rt c = true) (hl : Rt (ifL a b c) = true) (hn : n < 100000)
    (hx : rnX a k v w (n : Int) = .ok u S m) (hk : u.k = 0) :
    (∃ x y, rnX (if u.n = 0 then c else b) k v w (m : Int) = .er x ∧ rnX (ifL a b c) k v w ((n + 1 : Nat) : Int) = .er y ∧ (y = x ∨ y = 22)) ∨
    (∃ t S2 j, rnX (if u.n = 0 then c else b) k v w (m : Int) = .ok t S2 j ∧ ((64 < S.out.length + S2.out.length ∧ rnX (ifL a b c) k v w ((n + 1 : Nat) : Int) = .er 22) ∨
      (S.out.length + S2.out.length ≤ 64 ∧ ∃ S3, rnX (ifL a b c) k v w ((n + 1 : Nat) : Int) = .ok t S3 j ∧ S3.out = S.out ++ S2.out))) := by
  have hle := rnX_left hx
  have he : rEnv k v w = true := by
    unfold rnX at hx
    split at hx
    · rename_i h; exact h.2.1
    · cases hx
  have e1 : rnX a k v w (n : Int) = ev 25 a (S0 k v w) n := if_pos ⟨ha, he, by omega, by omega⟩
  have e3 : rnX (ifL a b c) k v w ((n + 1 : Nat) : Int) = ev 25 (ifL a b c) (S0 k v w) (n + 1) := if_pos ⟨hl, he, by omega, by omega⟩
  have hr : Rt (if u.n = 0 then c else b) = true := by split <;> assumption
  have e2 : rnX (if u.n = 0 then c else b) k v w (m : Int) = ev 25 (if u.n = 0 then c else b) (S0 k v w) m := if_pos ⟨hr, he, by omega, by omega⟩
  rw [e1] at hx
  have e4 : ev 25 (ifL a b c) (S0 k v w) (n + 1) = ev 25 (if u.n = 0 then c else b) ((S0 k v w).ahead S.out) m := by
    rw [if_run ha hb hc hl, bnd_ok hx, if_neg (fun e => e hk)]
    conv => lhs; rw [kee_S0 hx]
    split <;> rfl
  rw [e2, e3, e4]
  rcases ev_pre 25 (if u.n = 0 then c else b) (S0 k v w) m with ⟨t, S2, j, q, _, q1, q2⟩ | ⟨x, q, q1⟩
  · refine .inr ⟨t, S2, j, q, ?_⟩
    by_cases h : S.out.length + S2.out.length ≤ 64
    · exact .inr ⟨h, _, q1 S.out h, rfl⟩
    · exact .inl ⟨by omega, q2 S.out (by show S.out.length + 0 ≤ 64; exact hle.2.2.1) (by omega)⟩
  · rcases q1 S.out (by show S.out.length + 0 ≤ 64; exact hle.2.2.1) with h | h
    · exact .inl ⟨x, x, q, h, .inl rfl⟩
    · exact .inl ⟨x, 22, q, h, .inr rfl⟩
end Go.Proofs.YtcdjincaedpodaaGreatDoor.Ev
/-
  Of any seat: whatever row is appended to a row of the call's own, an empty one too.
-/
namespace Go.Proofs.YtcdjincaedpodaaGreatDoor.Ov
open Go.ChangeShapes Go.WideShapes Go.ChangeAt Go.RowKit

section
variable {P : Program} (w : World)
theorem src_nil {t e : TypeId} (ht : P.underlying t = some (.slice e)) (size : Nat) (p : Option Addr) (c : Nat) : Src P size t (.slice p 0 c) 0 [] w :=
  ⟨.inl ⟨e, ht⟩, fun _ => by cases p <;> rfl, by cases p <;> simp [Builtin.firstCells, loadCells, loadCellsFrom], by cases p <;> simp [Builtin.firstCells, loadCells, loadCellsFrom], by simp, fun u h => by cases h⟩
theorem run_app (base : Nat) (t ty e : TypeId) (i : TypeInfo) (z : Value) (size bytes : Nat) (ht : P.underlying t = some (.slice e)) (hi : P.info? e = some i) (hz : i.zero = some z)
    (hsize : i.size = size) (hby : i.bytes = bytes) (hzs : z.cells.size = size) (hsz : 0 < size)
    (v : Value) (n : Nat) (xs : List Value) (hown : w.ownsRow base e size v n xs)
    (p : Option Addr) (m c : Nat) (news : List Value) (hl : news.length = m * size) (hnews : 0 < m → ∃ ad, p = some ad ∧ ∀ j u, news[j]? = some u → w.cell? (ad.add j) = some u) (h1 : ∀ u ∈ news, u.oneCell' = true)
    (h63 : n + m ≤ maxLen) (hbytes : (n + m) * bytes ≤ 140737488355328) (hbase : base ≤ w.heap.size) :
    ∃ v' w', (Builtin.append_ #[t, t] ty #[v, .slice p m c]).run P w = .ok v' w' ∧ w'.ownsRow base e size v' (n + m) (xs ++ news) ∧ w.grownBy w' v.ownBlock := by
  by_cases hm : m = 0
  · subst hm
    obtain rfl : news = [] := List.eq_nil_of_length_eq_zero (by simpa using hl)
    obtain ⟨A, cap, rfl⟩ := Ex.own_slice hown
    refine ⟨_, _, run_append_nothing w t t ty e i ht hi A n cap (Ex.own_cap hown).1 _ (src_nil w ht _ p c), by simpa using hown, ⟨rfl, rfl, rfl, Nat.le_refl _, fun _ _ _ => rfl⟩⟩
  · obtain ⟨ad, rfl, hn⟩ := hnews (by omega)
    obtain ⟨v', w', h2, h3, h4, _⟩ := run_append_own (P := P) w base t ty e i z size bytes ht hi hz hsize hby hzs hsz v n xs hown ad m c news hl hn h1 h63 hbytes hbase
    exact ⟨v', w', h2, h3, h4⟩
theorem wpList_app {ops : Array Oper} {rest : List Oper} {o : Oper} {a : Act} {Q : Exit → Act → World → Prop} (hgd : o.guard = none) (s x : Operand) (t : TypeId)
    (ho : o.op = .call { callee := .builtin .append, args := #[s, x], argTypes := #[t, t] })
    (base : Nat) (e : TypeId) (i : TypeInfo) (z : Value) (size bytes : Nat) (ht : P.underlying t = some (.slice e)) (hi : P.info? e = some i) (hz : i.zero = some z)
    (hsize : i.size = size) (hby : i.bytes = bytes) (hzs : z.cells.size = size) (hsz : 0 < size)
    (v : Value) (n : Nat) (xs : List Value) (hs : a.eval s = v) (hown : w.ownsRow base e size v n xs)
    (p : Option Addr) (m c : Nat) (news : List Value) (hx : a.eval x = .slice p m c) (hl : news.length = m * size) (hnews : 0 < m → ∃ ad, p = some ad ∧ ∀ j u, news[j]? = some u → w.cell? (ad.add j) = some u) (h1 : ∀ u ∈ news, u.oneCell' = true)
    (h63 : n + m ≤ maxLen) (hbytes : (n + m) * bytes ≤ 140737488355328) (hbase : base ≤ w.heap.size)
    (h : ∀ v' w', w'.ownsRow base e size v' (n + m) (xs ++ news) → w.grownBy w' v.ownBlock → wpList P ops Q rest (a.put o.dst v') w') : wpList P ops Q (o :: rest) a w :=
  wpList_plain hgd fun _ hK => by
    obtain ⟨v', w', hr, h2, h3⟩ := run_app (P := P) w base t o.type e i z size bytes ht hi hz hsize hby hzs hsz v n xs hown p m c news hl hnews h1 h63 hbytes hbase
    unfold Oper.wp execOp
    simp only [ho, resolve, invoke, builtin, Sem.run_bind, Sem.run_pure, Result.andThen_ok, List.map_toArray, List.map_cons, List.map_nil, hs, hx, hr]
    exact hK _ _ (h v' w' h2 h3)
theorem step_app {ops : Array Oper} {o : Oper} {a : Act} {K : Act → World → Prop} {Q : Exit → Act → World → Prop} {E : Prop} (hgd : o.guard = none) (s x : Operand) (t : TypeId)
    (ho : o.op = .call { callee := .builtin .append, args := #[s, x], argTypes := #[t, t] })
    (base : Nat) (e : TypeId) (i : TypeInfo) (z : Value) (size bytes : Nat) (ht : P.underlying t = some (.slice e)) (hi : P.info? e = some i) (hz : i.zero = some z)
    (hsize : i.size = size) (hby : i.bytes = bytes) (hzs : z.cells.size = size) (hsz : 0 < size)
    (v : Value) (n : Nat) (xs : List Value) (hs : a.eval s = v) (hown : w.ownsRow base e size v n xs)
    (p : Option Addr) (m c : Nat) (news : List Value) (hx : a.eval x = .slice p m c) (hl : news.length = m * size) (hnews : 0 < m → ∃ ad, p = some ad ∧ ∀ j u, news[j]? = some u → w.cell? (ad.add j) = some u) (h1 : ∀ u ∈ news, u.oneCell' = true)
    (h63 : n + m ≤ maxLen) (hbytes : (n + m) * bytes ≤ 140737488355328) (hbase : base ≤ w.heap.size)
    (h : ∀ v' w', w'.ownsRow base e size v' (n + m) (xs ++ news) → w.grownBy w' v.ownBlock → K (a.put o.dst v') w') :
    if Region.wanted o (yielded ops a.tmps) = true then Oper.wp P o a w K Q else E := by
  have hw : Region.wanted o (yielded ops a.tmps) = true := by simp [Region.wanted, hgd]
  rw [if_pos hw]
  obtain ⟨v', w', hr, h2, h3⟩ := run_app (P := P) w base t o.type e i z size bytes ht hi hz hsize hby hzs hsz v n xs hown p m c news hl hnews h1 h63 hbytes hbase
  unfold Oper.wp execOp
  simp only [ho, resolve, invoke, builtin, Sem.run_bind, Sem.run_pure, Result.andThen_ok, List.map_toArray, List.map_cons, List.map_nil, hs, hx, hr]
  exact h v' w' h2 h3
end
end Go.Proofs.YtcdjincaedpodaaGreatDoor.Ov
namespace Go.Proofs.YtcdjincaedpodaaGreatDoor.Ex
open Go.ChangeShapes Go.WideShapes Go.ChangeAt Go.RowKit Go.Proofs.YtcdjincaedpodaaGreatDoor.Ov
theorem nds_news {w : World} {p : Option Addr} {l : List No} (h : Nds w p l) : 0 < l.length → ∃ ad, p = some ad ∧ ∀ j u, (cells l)[j]? = some u → w.cell? (ad.add j) = some u := fun hn => by
  obtain ⟨B, O, e, hc⟩ := h hn
  refine ⟨_, e, fun j u hu => ?_⟩
  have hj : j < l.length * 6 := by
    rcases Nat.lt_or_ge j (l.length * 6) with h1 | h1
    · exact h1
    · rw [List.getElem?_eq_none (by rw [cells_len]; exact h1)] at hu; cases hu
  have hq : j / 6 * 6 + j % 6 = j := by omega
  have h2 := cells_at l (j / 6) (j % 6) (by omega) (by omega)
  rw [hq, hu] at h2
  rw [Go.WideShapes.add_plain]
  have := hc (j / 6) (j % 6) u (by omega) h2.symm
  rwa [show O + j / 6 * 6 + j % 6 = O + j by omega] at this
theorem cells_one (l : List No) : ∀ u ∈ cells l, u.oneCell' = true := by
  intro u hu
  unfold cells at hu
  obtain ⟨n, _, h⟩ := List.mem_flatMap.1 hu
  unfold ncl at h
  simp only [List.mem_cons, List.not_mem_nil, or_false] at h
  rcases h with rfl | rfl | rfl | rfl | rfl | rfl <;> rfl
end Go.Proofs.YtcdjincaedpodaaGreatDoor.Ex
/-
  Rows beside a block that was made since.
-/
namespace Go.Proofs.YtcdjincaedpodaaGreatDoor.Ev
open Go.ChangeShapes Go.WideShapes Go.ChangeAt Go.RowKit Go.Proofs.YtcdjincaedpodaaGreatDoor.Ov Go.Proofs.YtcdjincaedpodaaGreatDoor.Va Go.Proofs.YtcdjincaedpodaaGreatDoor.Ex

section
variable {w0 w : World} {p : Option Addr} {z : Nat}
theorem nds_far {l : List No} (h0 : Nds w0 p l) (h : Nds w p l) (hz : w0.heap.size ≤ z) (vs : List Value) (o : Nat) : Nds (putL w z o vs) p l := fun hn => by
  obtain ⟨B0, O0, e0, hc0⟩ := h0 hn
  obtain ⟨B, O, e, hc⟩ := h hn
  have hB : B < w0.heap.size := by
    rw [e0] at e
    have := Option.some.inj e
    simp only [Addr.mk.injEq] at this
    rw [← this.1]
    exact block_lt_of_cell (hc0 0 0 _ hn rfl)
  exact ⟨B, O, e, fun i j v hi hv => (cell_puts_other (by omega) vs o).trans (hc i j v hi hv)⟩
theorem prs_far {l : List (List UInt8 × Va)} (h0 : Prs w0 p l) (h : Prs w p l) (hz : w0.heap.size ≤ z) (vs : List Value) (o : Nat) : Prs (putL w z o vs) p l := fun hn => by
  obtain ⟨B0, O0, e0, hc0⟩ := h0 hn
  obtain ⟨B, O, e, hc⟩ := h hn
  have hB : B < w0.heap.size := by
    rw [e0] at e
    have := Option.some.inj e
    simp only [Addr.mk.injEq] at this
    rw [← this.1]
    exact block_lt_of_cell (hc0 0 0 _ hn rfl)
  exact ⟨B, O, e, fun i j v hi hv => (cell_puts_other (by omega) vs o).trans (hc i j v hi hv)⟩
theorem prs_puts {l : List (List UInt8 × Va)} (vs : List Value) (o : Nat) (h : Prs w p l) (hC : ∀ a, p = some a → a.block ≠ z) : Prs (putL w z o vs) p l := fun hn => by
  obtain ⟨B, O, e, hc⟩ := h hn
  exact ⟨B, O, e, fun i j v hi hv => (cell_puts_other (fun e2 => hC _ e e2.symm) vs o).trans (hc i j v hi hv)⟩
theorem pcells_len (l : List (List UInt8 × Va)) : (pcells l).length = l.length * 6 := by
  induction l with
  | nil => rfl
  | cons x l ih =>
    show (pcl x ++ pcells l).length = _
    rw [List.length_append, ih, List.length_cons]
    show 6 + _ = _
    omega
theorem pcells_one (l : List (List UInt8 × Va)) : ∀ u ∈ pcells l, u.oneCell' = true := by
  intro u hu
  unfold pcells at hu
  obtain ⟨n, _, h⟩ := List.mem_flatMap.1 hu
  exact pcl_one n u h
theorem pcells_app (l m : List (List UInt8 × Va)) : [] ++ pcells l ++ pcells m = pcells (l ++ m) := by
  unfold pcells; simp
theorem prs_news {l : List (List UInt8 × Va)} (h : Prs w p l) : 0 < l.length → ∃ ad, p = some ad ∧ ∀ j u, (pcells l)[j]? = some u → w.cell? (ad.add j) = some u := fun hn => by
  obtain ⟨B, O, e, hc⟩ := h hn
  refine ⟨_, e, fun j u hu => ?_⟩
  have hj : j < l.length * 6 := by
    rcases Nat.lt_or_ge j (l.length * 6) with h1 | h1
    · exact h1
    · rw [List.getElem?_eq_none (by rw [pcells_len]; exact h1)] at hu; cases hu
  have hq : j / 6 * 6 + j % 6 = j := by omega
  have h2 := pcells_at l (j / 6) (j % 6) (by omega) (by omega)
  rw [hq, hu] at h2
  rw [Go.WideShapes.add_plain]
  have := hc (j / 6) (j % 6) u (by omega) h2.symm
  rwa [show O + j / 6 * 6 + j % 6 = O + j by omega] at this
end
end Go.Proofs.YtcdjincaedpodaaGreatDoor.Ev

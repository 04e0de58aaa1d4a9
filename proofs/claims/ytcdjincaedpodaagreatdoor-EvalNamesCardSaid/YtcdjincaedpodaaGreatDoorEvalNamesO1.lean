/-
  The texts of this claim, EvalNames alone, 1: EvLocal, EvNam, EvNamX, EvNamesW.
-/
import Derived.Test.YtcdjincaedpodaaGreatDoorLot7
/-
  What an expression comes to hangs on its own nodes alone, and on no depth; the names that it doesn't name say nothing; pairs are appended. Plain.
-/
namespace Go.Proofs.YtcdjincaedpodaaGreatDoor.Ev
open Go.Proofs.YtcdjincaedpodaaGreatDoor.Ov Go.Proofs.YtcdjincaedpodaaGreatDoor.Tp Go.Proofs.YtcdjincaedpodaaGreatDoor.Ga Go.Proofs.YtcdjincaedpodaaGreatDoor.Va Go.Proofs.YtcdjincaedpodaaGreatDoor.Ex

theorem ex_app {d : Nat} {l r : List No} (h : ex d l = some r) (s : List No) : ex d (l ++ s) = some (r ++ s) := by
  obtain ⟨c, hc, _, h2⟩ := ex_takes d l r h
  rw [hc, List.append_assoc]; exact h2 _
theorem nx_app {d : Nat} {r r' : List No} (h : ex d r = some r') (hd : d ≤ 25) (s : List No) : nx (r ++ s) = nx r ++ s := by rw [nx_of h hd, nx_of (ex_app h s) hd]
theorem va_local {d : Nat} {f g : List No → M Va} {s : List No} (h : ∀ l r, ex d l = some r → g (l ++ s) = f l) (hd : d ≤ 25) : ∀ (k : Nat) (l r : List No) (acc : List Va), it (ex d) k l = some r → va g k (l ++ s) acc = va f k l acc
  | 0, _, _, _, _ => rfl
  | k + 1, l, r, acc, hi => by
    rw [it_succ] at hi
    obtain ⟨r1, h1, h2⟩ := Option.bind_eq_some_iff.1 hi
    rw [va_succ, va_succ, h _ _ h1, nx_app h1 hd]
    congr 1
    funext v
    rw [nx_of h1 hd]
    exact va_local h hd k r1 r _ h2
theorem body_local {d : Nat} {f g : List No → M Va} {s : List No} (h : ∀ l r, ex d l = some r → g (l ++ s) = f l) (hd : d ≤ 25) (n : No) {l r : List No} (hi : it (ex d) (pa n.o) l = some r) : body g n (l ++ s) = body f n l := by
  unfold body
  split
  · rfl
  split
  · rfl
  split
  · rename_i h11
    rw [h11] at hi
    change it (ex d) 3 l = some r at hi
    rw [it_succ] at hi
    obtain ⟨r1, e1, hi⟩ := Option.bind_eq_some_iff.1 hi
    rw [it_succ] at hi
    obtain ⟨r2, e2, hi⟩ := Option.bind_eq_some_iff.1 hi
    rw [it_succ] at hi
    obtain ⟨r3, e3, hi⟩ := Option.bind_eq_some_iff.1 hi
    rw [h _ _ e1, nx_app e1 hd, nx_of e1 hd, nx_app e2 hd, nx_of e2 hd, h _ _ e2, h _ _ e3]
  split
  · rename_i h28
    rw [h28] at hi
    change it (ex d) 2 l = some r at hi
    rw [it_succ] at hi
    obtain ⟨r1, e1, hi⟩ := Option.bind_eq_some_iff.1 hi
    rw [it_succ] at hi
    obtain ⟨r2, e2, hi⟩ := Option.bind_eq_some_iff.1 hi
    rw [h _ _ e1, nx_app e1 hd, nx_of e1 hd, h _ _ e2]
  split
  · rename_i h29
    rw [h29] at hi
    change it (ex d) 2 l = some r at hi
    rw [it_succ] at hi
    obtain ⟨r1, e1, hi⟩ := Option.bind_eq_some_iff.1 hi
    rw [it_succ] at hi
    obtain ⟨r2, e2, hi⟩ := Option.bind_eq_some_iff.1 hi
    rw [h _ _ e1, nx_app e1 hd, nx_of e1 hd, h _ _ e2]
  · rw [va_local h hd _ _ _ _ hi]
/-- As deep as may be, and whatever is behind. -/
theorem ev_local : ∀ (d : Nat) (e : Nat) (l r s : List No), ex d l = some r → d ≤ e → d ≤ 25 → ev e (l ++ s) = ev d l
  | 0, _, _, _, _, h, _, _ => by cases h
  | d + 1, 0, _, _, _, _, h, _ => absurd h (by omega)
  | d + 1, e + 1, [], _, _, h, _, _ => by cases h
  | d + 1, e + 1, n :: t, r, s, h, he, hd => by
    rw [ex_cons] at h
    split at h
    · rw [List.cons_append, ev_cons, ev_cons]
      congr 1
      funext _
      exact body_local (fun l r h1 => ev_local d e l r s h1 (by omega) (by omega)) (by omega) n h
    · cases h
theorem ev_deep {d e : Nat} {l r : List No} (h : ex d l = some r) (he : d ≤ e) (hd : d ≤ 25) : ev e l = ev d l := by
  have := ev_local d e l r [] h he hd
  rwa [List.append_nil] at this
/-! ### Pairs ahead -/
def St.ahead (p : List (List UInt8 × Va)) (S : St) : St := { S with out := p ++ S.out }
/-- Pairs that lay there ahead: nothing else, but there may be too many. -/
def Pre {α : Type} (f : M α) : Prop := ∀ S n, (∃ a S1 m, f S n = .ok a S1 m ∧ S.out.length ≤ S1.out.length ∧ (∀ p, p.length + S1.out.length ≤ 64 → f (S.ahead p) n = .ok a (S1.ahead p) m) ∧ ∀ p, p.length + S.out.length ≤ 64 → 64 < p.length + S1.out.length → f (S.ahead p) n = .er 22) ∨
  (∃ x, f S n = .er x ∧ ∀ p, p.length + S.out.length ≤ 64 → f (S.ahead p) n = .er x ∨ f (S.ahead p) n = .er 22)
theorem Pre.still {α : Type} {f : M α} (h : ∀ S n, (∃ a S1 m, f S n = .ok a S1 m ∧ S1.out = S.out ∧ ∀ p, f (S.ahead p) n = .ok a (S1.ahead p) m) ∨ ∃ x, f S n = .er x ∧ ∀ p, f (S.ahead p) n = .er x) : Pre f := by
  intro S n
  rcases h S n with ⟨a, S1, m, e, e1, e2⟩ | ⟨x, e, e1⟩
  · exact .inl ⟨a, S1, m, e, by rw [e1]; exact Nat.le_refl _, fun p _ => e2 p, fun p h1 h2 => by rw [e1] at h2; omega⟩
  · exact .inr ⟨x, e, fun p _ => .inl (e1 p)⟩
theorem Pre.bnd {α β : Type} {f : M α} {g : α → M β} (hf : Pre f) (hg : ∀ a, Pre (g a)) : Pre (bnd f g) := by
  intro S n
  rcases hf S n with ⟨a, S1, m, e, e0, e1, e2⟩ | ⟨x, e, e1⟩
  · rcases hg a S1 m with ⟨b, S2, k, q, q0, q1, q2⟩ | ⟨x, q, q1⟩
    · refine .inl ⟨b, S2, k, by rw [bnd_ok e]; exact q, by omega, fun p hp => ?_, fun p h1 h2 => ?_⟩
      · rw [bnd_ok (e1 p (by omega))]; exact q1 p hp
      · by_cases h : p.length + S1.out.length ≤ 64
        · rw [bnd_ok (e1 p h)]; exact q2 p h h2
        · exact bnd_er (e2 p h1 (by omega))
    · refine .inr ⟨x, by rw [bnd_ok e]; exact q, fun p hp => ?_⟩
      by_cases h : p.length + S1.out.length ≤ 64
      · rw [bnd_ok (e1 p h)]; exact q1 p h
      · exact .inr (bnd_er (e2 p hp (by omega)))
  · refine .inr ⟨x, bnd_er e, fun p hp => ?_⟩
    rcases e1 p hp with h | h
    · exact .inl (bnd_er h)
    · exact .inr (bnd_er h)
theorem Pre.ret {α : Type} (a : α) : Pre (ret a) := .still fun S n => .inl ⟨a, S, n, rfl, rfl, fun _ => rfl⟩
theorem Pre.fail {α : Type} (x : Int) : Pre (fail x : M α) := .still fun _ _ => .inr ⟨x, rfl, fun _ => rfl⟩
theorem Pre.nmd (k : Int) : Pre (nmd k) := .still fun S n => .inl ⟨_, S, n, rfl, rfl, fun _ => rfl⟩
theorem Pre.setI (k : Int) : Pre (setI k) := .still fun _ n => .inl ⟨(), _, n, rfl, rfl, fun _ => rfl⟩
theorem Pre.tick : Pre tick := .still fun S n => by
  cases n with
  | zero => exact .inr ⟨15, rfl, fun _ => rfl⟩
  | succ n => exact .inl ⟨(), S, n, rfl, rfl, fun _ => rfl⟩
theorem Pre.lift (x : Int ⊕ Va) : Pre (lift x) := by
  cases x with
  | inl e => exact .fail e
  | inr v => exact .ret v
theorem Pre.emit (k : List UInt8) (v : Va) : Pre (emitM k v) := by
  intro S n
  by_cases h : 64 ≤ S.out.length
  · exact .inr ⟨22, by unfold emitM; rw [if_pos h], fun p hp => .inl (by unfold emitM St.ahead; dsimp only; rw [if_pos (by rw [List.length_append]; omega)])⟩
  · refine .inl ⟨v, _, n, by unfold emitM; rw [if_neg h], by rw [List.length_append]; omega, fun p hp => ?_, fun p hp hq => ?_⟩
    · rw [List.length_append] at hp
      unfold emitM St.ahead
      dsimp only
      rw [if_neg (by rw [List.length_append]; simp at hp; omega), List.append_assoc]
    · rw [List.length_append] at hq
      unfold emitM St.ahead
      dsimp only
      rw [if_pos (by rw [List.length_append]; simp at hq; omega)]
theorem Pre.ite {α : Type} {c : Prop} [Decidable c] {f g : M α} (hf : Pre f) (hg : Pre g) : Pre (if c then f else g) := by
  split
  · exact hf
  · exact hg
theorem Pre.withI {f : M Va} (h : Pre f) : Pre (withI f) := by
  intro S n
  rcases h S n with ⟨a, S1, m, e, e0, e1, e2⟩ | ⟨x, e, e1⟩
  · exact .inl ⟨a, { S1 with i := S.i }, m, by unfold Ev.withI; rw [e], e0, fun p hp => by unfold Ev.withI; rw [e1 p hp]; rfl, fun p hp hq => by unfold Ev.withI; rw [e2 p hp hq]⟩
  · refine .inr ⟨x, by unfold Ev.withI; rw [e], fun p hp => ?_⟩
    rcases e1 p hp with h | h
    · exact .inl (by unfold Ev.withI; rw [h])
    · exact .inr (by unfold Ev.withI; rw [h])
theorem Pre.withIt {v : Va} {f : M Va} (h : Pre f) : Pre (withIt v f) := by
  intro S n
  rcases h { S with it := v } n with ⟨a, S1, m, e, e0, e1, e2⟩ | ⟨x, e, e1⟩
  · exact .inl ⟨a, { S1 with it := S.it }, m, by unfold Ev.withIt; rw [e], e0, fun p hp => by have := e1 p hp; unfold St.ahead at this ⊢; unfold Ev.withIt; dsimp only at this ⊢; rw [this], fun p hp hq => by have := e2 p hp hq; unfold St.ahead at this ⊢; unfold Ev.withIt; dsimp only at this ⊢; rw [this]⟩
  · refine .inr ⟨x, by unfold Ev.withIt; rw [e], fun p hp => ?_⟩
    rcases e1 p hp with h | h
    · exact .inl (by unfold St.ahead at h ⊢; unfold Ev.withIt; dsimp only at h ⊢; rw [h])
    · exact .inr (by unfold St.ahead at h ⊢; unfold Ev.withIt; dsimp only at h ⊢; rw [h])
theorem Pre.ap (o : Int) (l : List Va) : Pre (ap o l) := by
  unfold Ev.ap
  exact .ite (.fail _) (.ite (.ite (.fail _) (.emit _ _)) (.lift _))
theorem Pre.lp {g : M Va} (h : Pre g) : ∀ (t : Nat) (k : Int) (v : Va), Pre (lp g t k v)
  | 0, _, v => .ret v
  | t + 1, k, v => by rw [lp_succ]; exact (Pre.setI k).bnd fun _ => h.bnd fun v => Pre.lp h t (k + 1) v
theorem Pre.va {f : List No → M Va} (h : ∀ r, Pre (f r)) : ∀ (k : Nat) (r : List No) (acc : List Va), Pre (va f k r acc)
  | 0, _, _ => .ret _
  | k + 1, r, acc => by rw [va_succ]; exact (h r).bnd fun v => Pre.va h k _ _
theorem Pre.body {f : List No → M Va} (h : ∀ r, Pre (f r)) (n : No) (r : List No) : Pre (body f n r) := by
  unfold Ev.body
  exact .ite (.ret _) (.ite (.nmd _) (.ite ((h r).bnd fun a => .ite (.fail _) (.ite (h _) (h _))) (.ite ((h r).bnd fun a => .ite (.fail _) (.ite (.fail _) (.withI (.lp (h _) _ _ _)))) (.ite ((h r).bnd fun a => .withIt (h _)) ((Pre.va h _ _ _).bnd fun l => .ap _ l)))))
theorem ev_pre : ∀ (d : Nat) (l : List No), Pre (ev d l)
  | 0, _ => .fail 15
  | _ + 1, [] => .fail 15
  | d + 1, n :: r => by rw [ev_cons]; exact Pre.tick.bnd fun _ => .body (ev_pre d) n r
/-! ### What stands for names stays as it was -/
def Kee {α : Type} (f : M α) : Prop := ∀ S n a S1 m, f S n = .ok a S1 m → S1 = { S with out := S1.out }
theorem Kee.bnd {α β : Type} {f : M α} {g : α → M β} (hf : Kee f) (hg : ∀ a, Kee (g a)) : Kee (bnd f g) := by
  intro S n b S1 m e
  unfold Ev.bnd at e
  cases hc : f S n with
  | er x => rw [hc] at e; cases e
  | ok a S2 n2 =>
    rw [hc] at e
    have h1 := hf _ _ _ _ _ hc
    have h2 := hg a _ _ _ _ _ e
    rw [h2, h1]
theorem Kee.ret {α : Type} (a : α) : Kee (ret a) := by
  intro S n b S1 m e; injection e with _ e2 _; subst e2; rfl
theorem Kee.fail {α : Type} (x : Int) : Kee (fail x : M α) := by intro S n b S1 m e; cases e
theorem Kee.nmd (k : Int) : Kee (nmd k) := by
  intro S n b S1 m e; injection e with _ e2 _; subst e2; rfl
theorem Kee.tick : Kee tick := by
  intro S n b S1 m e
  cases n with
  | zero => cases e
  | succ n => injection e with _ e2 _; subst e2; rfl
theorem Kee.lift (x : Int ⊕ Va) : Kee (lift x) := by
  cases x with
  | inl e => exact .fail e
  | inr v => exact .ret v
theorem Kee.emit (k : List UInt8) (v : Va) : Kee (emitM k v) := by
  intro S n b S1 m e
  unfold emitM at e
  split at e
  · cases e
  · injection e with _ e2 _; subst e2; rfl
theorem Kee.ite {α : Type} {c : Prop} [Decidable c] {f g : M α} (hf : Kee f) (hg : Kee g) : Kee (if c then f else g) := by
  split
  · exact hf
  · exact hg
/-- But for i. -/
def KeeI {α : Type} (f : M α) : Prop := ∀ S n a S1 m, f S n = .ok a S1 m → S1 = { S with out := S1.out, i := S1.i }
theorem Kee.toI {α : Type} {f : M α} (h : Kee f) : KeeI f := fun S n a S1 m e => by
  have := h S n a S1 m e
  rw [this]
theorem KeeI.bnd {α β : Type} {f : M α} {g : α → M β} (hf : KeeI f) (hg : ∀ a, KeeI (g a)) : KeeI (bnd f g) := by
  intro S n b S1 m e
  unfold Ev.bnd at e
  cases hc : f S n with
  | er x => rw [hc] at e; cases e
  | ok a S2 n2 =>
    rw [hc] at e
    have h1 := hf _ _ _ _ _ hc
    have h2 := hg a _ _ _ _ _ e
    rw [h2, h1]
theorem KeeI.setI (k : Int) : KeeI (setI k) := by
  intro S n b S1 m e; injection e with _ e2 _; subst e2; rfl
theorem KeeI.lp {g : M Va} (h : Kee g) : ∀ (t : Nat) (k : Int) (v : Va), KeeI (lp g t k v)
  | 0, _, v => (Kee.ret v).toI
  | t + 1, k, v => by rw [lp_succ]; exact (KeeI.setI k).bnd fun _ => h.toI.bnd fun v => KeeI.lp h t (k + 1) v
theorem Kee.withI {f : M Va} (h : KeeI f) : Kee (withI f) := by
  intro S n b S1 m e
  unfold Ev.withI at e
  cases hc : f S n with
  | er x => rw [hc] at e; cases e
  | ok a S2 n2 =>
    rw [hc] at e
    injection e with _ e2 _
    have h1 := h _ _ _ _ _ hc
    rw [← e2, h1]
theorem Kee.withIt {v : Va} {f : M Va} (h : Kee f) : Kee (withIt v f) := by
  intro S n b S1 m e
  unfold Ev.withIt at e
  cases hc : f { S with it := v } n with
  | er x => rw [hc] at e; cases e
  | ok a S2 n2 =>
    rw [hc] at e
    injection e with _ e2 _
    have h1 := h _ _ _ _ _ hc
    rw [← e2, h1]
theorem Kee.ap (o : Int) (l : List Va) : Kee (ap o l) := by
  unfold Ev.ap
  exact .ite (.fail _) (.ite (.ite (.fail _) (.emit _ _)) (.lift _))
theorem Kee.va {f : List No → M Va} (h : ∀ r, Kee (f r)) : ∀ (k : Nat) (r : List No) (acc : List Va), Kee (va f k r acc)
  | 0, _, _ => .ret _
  | k + 1, r, acc => by rw [va_succ]; exact (h r).bnd fun v => Kee.va h k _ _
theorem Kee.body {f : List No → M Va} (h : ∀ r, Kee (f r)) (n : No) (r : List No) : Kee (body f n r) := by
  unfold Ev.body
  exact .ite (.ret _) (.ite (.nmd _) (.ite ((h r).bnd fun a => .ite (.fail _) (.ite (h _) (h _))) (.ite ((h r).bnd fun a => .ite (.fail _) (.ite (.fail _) (.withI (.lp (h _) _ _ _)))) (.ite ((h r).bnd fun a => .withIt (h _)) ((Kee.va h _ _ _).bnd fun l => .ap _ l)))))
theorem ev_kee : ∀ (d : Nat) (l : List No), Kee (ev d l)
  | 0, _ => .fail 15
  | _ + 1, [] => .fail 15
  | d + 1, n :: r => by rw [ev_cons]; exact Kee.tick.bnd fun _ => .body (ev_kee d) n r
end Go.Proofs.YtcdjincaedpodaaGreatDoor.Ev
/-
  What stands for a name that an expression doesn't name says nothing. Plain.
-/
namespace Go.Proofs.YtcdjincaedpodaaGreatDoor.Ev
open Go.Proofs.YtcdjincaedpodaaGreatDoor.Ov Go.Proofs.YtcdjincaedpodaaGreatDoor.Tp Go.Proofs.YtcdjincaedpodaaGreatDoor.Ga Go.Proofs.YtcdjincaedpodaaGreatDoor.Va Go.Proofs.YtcdjincaedpodaaGreatDoor.Ex

/-- Something else stands for the first three names. -/
def St.alt (k : List UInt8) (v c : Va) (S : St) : St := { S with key := k, val := v, acc := c }
def Rs.alt {α : Type} (k : List UInt8) (v c : Va) : Rs α → Rs α
  | .er x => .er x
  | .ok a S n => .ok a (S.alt k v c) n
section
variable {K K' : List UInt8} {V C V' C' : Va}
def Was (K : List UInt8) (V C : Va) (S : St) : Prop := S.key = K ∧ S.val = V ∧ S.acc = C
def Nam {α : Type} (K : List UInt8) (V C : Va) (K' : List UInt8) (V' C' : Va) (f : M α) : Prop := ∀ S n, Was K V C S → f (S.alt K' V' C') n = (f S n).alt K' V' C' ∧ ∀ a S1 m, f S n = .ok a S1 m → Was K V C S1
theorem Nam.bnd {α β : Type} {f : M α} {g : α → M β} (hf : Nam K V C K' V' C' f) (hg : ∀ a, Nam K V C K' V' C' (g a)) : Nam K V C K' V' C' (bnd f g) := by
  intro S n h
  obtain ⟨h1, h2⟩ := hf S n h
  unfold Ev.bnd
  rw [h1]
  cases hc : f S n with
  | er x => exact ⟨rfl, fun a S1 m e => by cases e⟩
  | ok a S2 n2 => exact hg a S2 n2 (h2 _ _ _ hc)
theorem Nam.ret {α : Type} (a : α) : Nam K V C K' V' C' (ret a) := fun S n h => ⟨rfl, fun b S1 m e => by injection e with _ e2 _; subst e2; exact h⟩
theorem Nam.fail {α : Type} (x : Int) : Nam K V C K' V' C' (fail x : M α) := fun S n h => ⟨rfl, fun b S1 m e => by cases e⟩
theorem Nam.setI (k : Int) : Nam K V C K' V' C' (setI k) := fun S n h => ⟨rfl, fun b S1 m e => by injection e with _ e2 _; subst e2; exact h⟩
theorem Nam.tick : Nam K V C K' V' C' tick := fun S n h => by
  cases n with
  | zero => exact ⟨rfl, fun b S1 m e => by cases e⟩
  | succ n => exact ⟨rfl, fun b S1 m e => by injection e with _ e2 _; subst e2; exact h⟩
theorem Nam.lift (x : Int ⊕ Va) : Nam K V C K' V' C' (lift x) := by
  cases x with
  | inl e => exact .fail e
  | inr v => exact .ret v
theorem Nam.emit (k : List UInt8) (v : Va) : Nam K V C K' V' C' (emitM k v) := fun S n h => by
  unfold emitM
  by_cases hl : 64 ≤ S.out.length
  · rw [if_pos (show 64 ≤ (S.alt K' V' C').out.length from hl), if_pos hl]; exact ⟨rfl, fun b S1 m e => by cases e⟩
  · rw [if_neg (show ¬ 64 ≤ (S.alt K' V' C').out.length from hl), if_neg hl]; exact ⟨rfl, fun b S1 m e => by injection e with _ e2 _; subst e2; exact h⟩
theorem Nam.nmd {k : Int} (h0 : k = 0 → K = K') (h1 : k = 1 → V = V') (h2 : k = 2 → C = C') : Nam K V C K' V' C' (nmd k) := fun S n h => by
  refine ⟨?_, fun b S1 m e => by injection e with _ e2 _; subst e2; exact h⟩
  obtain ⟨rfl, rfl, rfl⟩ := h
  unfold Ev.nmd Rs.alt
  by_cases e0 : k = 0
  · rw [if_pos e0, if_pos e0]; unfold St.alt; rw [← h0 e0]
  by_cases e1 : k = 1
  · rw [if_neg e0, if_pos e1, if_neg e0, if_pos e1]; unfold St.alt; rw [← h1 e1]
  by_cases e2 : k = 2
  · rw [if_neg e0, if_neg e1, if_pos e2, if_neg e0, if_neg e1, if_pos e2]; unfold St.alt; rw [← h2 e2]
  · rw [if_neg e0, if_neg e1, if_neg e2, if_neg e0, if_neg e1, if_neg e2]; rfl
theorem Nam.ite {α : Type} {c : Prop} [Decidable c] {f g : M α} (hf : c → Nam K V C K' V' C' f) (hg : ¬ c → Nam K V C K' V' C' g) : Nam K V C K' V' C' (if c then f else g) := by
  split
  · exact hf ‹_›
  · exact hg ‹_›
theorem Nam.withI {f : M Va} (h : Nam K V C K' V' C' f) : Nam K V C K' V' C' (withI f) := fun S n hw => by
  obtain ⟨h1, h2⟩ := h S n hw
  unfold Ev.withI
  rw [h1]
  cases hc : f S n with
  | er x => exact ⟨rfl, fun a S1 m e => by cases e⟩
  | ok a S2 n2 => exact ⟨rfl, fun b S1 m e => by injection e with _ e2 _; subst e2; exact (h2 _ _ _ hc : Was K V C S2)⟩
theorem Nam.withIt {v : Va} {f : M Va} (h : Nam K V C K' V' C' f) : Nam K V C K' V' C' (withIt v f) := fun S n hw => by
  obtain ⟨h1, h2⟩ := h { S with it := v } n hw
  unfold Ev.withIt
  rw [show ({ (S.alt K' V' C') with it := v } : St) = St.alt K' V' C' { S with it := v } from rfl, h1]
  cases hc : f { S with it := v } n with
  | er x => exact ⟨rfl, fun a S1 m e => by cases e⟩
  | ok a S2 n2 => exact ⟨rfl, fun b S1 m e => by injection e with _ e2 _; subst e2; exact (h2 _ _ _ hc : Was K V C S2)⟩
theorem Nam.ap (o : Int) (l : List Va) : Nam K V C K' V' C' (ap o l) := by
  unfold Ev.ap
  exact .ite (fun _ => .fail _) fun _ => .ite (fun _ => .ite (fun _ => .fail _) fun _ => .emit _ _) fun _ => .lift _
theorem Nam.lp {g : M Va} (h : Nam K V C K' V' C' g) : ∀ (t : Nat) (k : Int) (v : Va), Nam K V C K' V' C' (lp g t k v)
  | 0, _, v => .ret v
  | t + 1, k, v => by rw [lp_succ]; exact (Nam.setI k).bnd fun _ => h.bnd fun v => Nam.lp h t (k + 1) v
end
theorem nx_mem {n : No} {r : List No} (h : n ∈ nx r) : n ∈ r := by
  unfold nx at h
  cases hc : ex 25 r with
  | none => rw [hc] at h; cases h
  | some r' =>
    rw [hc] at h
    obtain ⟨c, e, _⟩ := ex_takes 25 r r' hc
    rw [e]; exact List.mem_append_right _ h
/-- A list that names only what stands alike. -/
def Ali (K : List UInt8) (V C : Va) (K' : List UInt8) (V' C' : Va) (l : List No) : Prop := ∀ n ∈ l, n.o = 1 → (n.v.n = 0 → K = K') ∧ (n.v.n = 1 → V = V') ∧ (n.v.n = 2 → C = C')
section
variable {K K' : List UInt8} {V C V' C' : Va}
theorem Ali.nx {l : List No} (h : Ali K V C K' V' C' l) : Ali K V C K' V' C' (nx l) := fun n hn => h n (nx_mem hn)
theorem Nam.va {f : List No → M Va} (h : ∀ r, Ali K V C K' V' C' r → Nam K V C K' V' C' (f r)) : ∀ (k : Nat) (r : List No) (acc : List Va), Ali K V C K' V' C' r → Nam K V C K' V' C' (va f k r acc)
  | 0, _, _, _ => .ret _
  | k + 1, r, acc, hr => by rw [va_succ]; exact (h r hr).bnd fun v => Nam.va h k _ _ hr.nx
theorem Nam.body {f : List No → M Va} (h : ∀ r, Ali K V C K' V' C' r → Nam K V C K' V' C' (f r)) {n : No} {r : List No} (hr : Ali K V C K' V' C' (n :: r)) : Nam K V C K' V' C' (body f n r) := by
  have h1 : Ali K V C K' V' C' r := fun m hm => hr m (List.mem_cons_of_mem _ hm)
  unfold Ev.body
  exact .ite (fun _ => .ret _) fun _ => .ite (fun e => have g := hr n List.mem_cons_self e; .nmd g.1 g.2.1 g.2.2) fun _ => .ite (fun _ => (h r h1).bnd fun a => .ite (fun _ => .fail _) fun _ => .ite (fun _ => h _ h1.nx.nx) fun _ => h _ h1.nx) fun _ =>
    .ite (fun _ => (h r h1).bnd fun a => .ite (fun _ => .fail _) fun _ => .ite (fun _ => .fail _) fun _ => .withI (.lp (h _ h1.nx) _ _ _)) fun _ => .ite (fun _ => (h r h1).bnd fun a => .withIt (h _ h1.nx)) fun _ => (Nam.va h _ _ _ h1).bnd fun l => .ap _ l
theorem ev_nam : ∀ (d : Nat) (l : List No), Ali K V C K' V' C' l → Nam K V C K' V' C' (ev d l)
  | 0, _, _ => .fail 15
  | _ + 1, [], _ => .fail 15
  | d + 1, n :: r, h => by rw [ev_cons]; exact Nam.tick.bnd fun _ => .body (ev_nam d) h
end
end Go.Proofs.YtcdjincaedpodaaGreatDoor.Ev
/-
  Of two runs whose names differ in what isn't named: the same. Plain; and nodes beside a block that is written.
-/
namespace Go.Proofs.YtcdjincaedpodaaGreatDoor.Ev
open Go.ChangeShapes Go.WideShapes Go.ChangeAt Go.RowKit Go.Proofs.YtcdjincaedpodaaGreatDoor.Ov Go.Proofs.YtcdjincaedpodaaGreatDoor.Tp Go.Proofs.YtcdjincaedpodaaGreatDoor.Ga Go.Proofs.YtcdjincaedpodaaGreatDoor.Va Go.Proofs.YtcdjincaedpodaaGreatDoor.Ex

theorem ali_of {l : List No} {k k' : List UInt8} {v v' a a' : Va} (h0 : hasN l l.length 0 = true → k = k') (h1 : hasN l l.length 1 = true → v = v') (h2 : hasN l l.length 2 = true → a = a') : Ali k v a k' v' a' l := by
  intro n hn ho
  have h : ∀ i : Nat, n.v.n = (i : Int) → hasN l l.length i = true := fun i hi => by
    unfold hasN
    rw [List.take_length, List.any_eq_true]
    exact ⟨n, hn, by rw [ho, hi]; simp⟩
  exact ⟨fun e => h0 (h 0 e), fun e => h1 (h 1 e), fun e => h2 (h 2 e)⟩
/-- What both runs answer. -/
theorem names_two {l : List No} {k k' : List UInt8} {v v' a a' : Va} (hA : Rt l = true → Ali k v a k' v' a' l) (n : Int) :
    (rnX l k v a n = .er 1 ∨ rnX l k' v' a' n = .er 1) ∨ (∃ x, rnX l k v a n = .er x ∧ rnX l k' v' a' n = .er x) ∨ ∃ u S S' m, rnX l k v a n = .ok u S m ∧ rnX l k' v' a' n = .ok u S' m ∧ S'.out = S.out := by
  by_cases hc : Rt l = true ∧ rEnv k v a = true ∧ 0 ≤ n ∧ n ≤ 100000
  · by_cases hc' : rEnv k' v' a' = true
    · have h := (ev_nam 25 l (hA hc.1) (S0 k v a) n.toNat ⟨rfl, rfl, rfl⟩).1
      have e1 : rnX l k v a n = ev 25 l (S0 k v a) n.toNat := if_pos hc
      have e2 : rnX l k' v' a' n = ev 25 l (S0 k' v' a') n.toNat := if_pos ⟨hc.1, hc', hc.2.2⟩
      have e3 : ev 25 l (S0 k' v' a') n.toNat = (ev 25 l (S0 k v a) n.toNat).alt k' v' a' := h
      rw [e1, e2, e3]
      cases ev 25 l (S0 k v a) n.toNat with
      | er x => exact .inr (.inl ⟨x, rfl, rfl⟩)
      | ok u S m => exact .inr (.inr ⟨u, S, S.alt k' v' a', m, rfl, rfl, rfl⟩)
    · exact .inl (.inr (rnX_bad fun h => hc' h.2.1))
  · exact .inl (.inl (rnX_bad hc))
theorem nds_puts {w : World} {p : Option Addr} {l : List No} {C : Nat} (vs : List Value) : ∀ (o : Nat), Nds w p l → (∀ a, p = some a → a.block ≠ C) → Nds (putL w C o vs) p l := by
  intro o h hC hn
  obtain ⟨B, O, e, hc⟩ := h hn
  exact ⟨B, O, e, fun i j v hi hv => (cell_puts_other (fun e2 => hC _ e e2.symm) vs o).trans (hc i j v hi hv)⟩
theorem own_far {w : World} {base n c lo : Nat} {e : TypeId} {A : Option Addr} {xs : List Value} (h : w.ownsRow base e 6 (.slice A n c) n xs) (hb : lo < base) : ∀ a, A = some a → a.block ≠ lo := by
  intro a ha
  rcases h.2 with ⟨h1, _⟩ | ⟨g, cap, cur, hv, h1, _⟩
  · injection h1 with h2 _ _
    rw [h2] at ha; cases ha
  · injection hv with h2 _ _
    rw [h2] at ha
    obtain rfl := Option.some.inj ha
    show g ≠ lo
    omega
end Go.Proofs.YtcdjincaedpodaaGreatDoor.Ev
/-
  EvalNames, walked (written by gen_evlaw.py).
-/
namespace Go.Proofs.YtcdjincaedpodaaGreatDoor.Ev
open Go.ChangeShapes Go.WideShapes Go.ChangeAt Go.RowKit Go.Proofs.YtcdjincaedpodaaGreatDoor.Ov Go.Proofs.YtcdjincaedpodaaGreatDoor.Va Go.Proofs.YtcdjincaedpodaaGreatDoor.Ga Go.Proofs.YtcdjincaedpodaaGreatDoor.Ex

set_option maxRecDepth 100000 in
set_option maxHeartbeats 32000000 in
theorem names_core (A : Option Addr) (c : Nat) (l : List No) (k : List UInt8) (v a : Va) (k2 : List UInt8) (v2 a2 : Va) (q : Nat) (w : World) (hn : Nds w A l) (hq : q < 65536) (hT : Tab w) (hK : KN w) : Calls Tryz.prog 7 #[.slice A l.length c, .agg #[.string (tx k), .int .i64 v.k, .int .i64 v.n, .string (tx v.s), .int .i64 v.x, .int .i64 v.y, .int .i64 a.k, .int .i64 a.n, .string (tx a.s), .int .i64 a.x, .int .i64 a.y], .agg #[.string (tx k2), .int .i64 v2.k, .int .i64 v2.n, .string (tx v2.s), .int .i64 v2.x, .int .i64 v2.y, .int .i64 a2.k, .int .i64 a2.n, .string (tx a2.s), .int .i64 a2.x, .int .i64 a2.y], .int .u16 (q : Int)] w (Gives (.bool true) w) := by
  have HAW := Lib.hid (fun w1 (h : Below w.heap.size w w1) => awake9_any w1 (hK.next h) (hT.next h))
  have HNl := Lib.hid hn
  have HB0 : Hid (Below w.heap.size w w) := Below.refl _ _
  have HOF := Lib.hid (fun w1 (h : Below w.heap.size w w1) (h1 : l.length ≤ 1000) => of_any l A c w1 (hn.next h) h1)
  have HRU := Lib.hid (fun (k : List UInt8) (v a : Va) (n : Int) w1 (h : Below w.heap.size w w1) (Ap : Option Addr) (cp : Nat) (hp : Nds w1 Ap l) (h1 : l.length ≤ 1000) => run_any l Ap cp k v a n w1 hp (hK.next h) (hT.next h) (by omega))
  have HNM := Lib.hid (fun w1 (h : Below w.heap.size w w1) (Ap : Option Addr) (cp : Nat) (hp : Nds w1 Ap l) (h1 : l.length ≤ 1000) => names_any l Ap cp w1 hp (hK.next h) (by omega))
  clear hn hT hK
  go_enter Tryz.func7, Tryz.ntmps7
  go_wp2_with (fail)
  have HB1 := Lib.hid (box2 w (.cells #[.string (tx k), .int .i64 v.k, .int .i64 v.n, .string (tx v.s), .int .i64 v.x, .int .i64 v.y, .int .i64 a.k, .int .i64 a.n, .string (tx a.s), .int .i64 a.x, .int .i64 a.y] 28) (.cells #[.string (tx k2), .int .i64 v2.k, .int .i64 v2.n, .string (tx v2.s), .int .i64 v2.x, .int .i64 v2.y, .int .i64 a2.k, .int .i64 a2.n, .string (tx a2.s), .int .i64 a2.x, .int .i64 a2.y] 28))
  have HE1 : Hid (Blk ((w.alloc (.cells #[.string (tx k), .int .i64 v.k, .int .i64 v.n, .string (tx v.s), .int .i64 v.x, .int .i64 v.y, .int .i64 a.k, .int .i64 a.n, .string (tx a.s), .int .i64 a.x, .int .i64 a.y] 28)).alloc (.cells #[.string (tx k2), .int .i64 v2.k, .int .i64 v2.n, .string (tx v2.s), .int .i64 v2.x, .int .i64 v2.y, .int .i64 a2.k, .int .i64 a2.n, .string (tx a2.s), .int .i64 a2.x, .int .i64 a2.y] 28)) w.heap.size [.string (tx k), .int .i64 v.k, .int .i64 v.n, .string (tx v.s), .int .i64 v.x, .int .i64 v.y, .int .i64 a.k, .int .i64 a.n, .string (tx a.s), .int .i64 a.x, .int .i64 a.y]) := (Blk.made w 28 [.string (tx k), .int .i64 v.k, .int .i64 v.n, .string (tx v.s), .int .i64 v.x, .int .i64 v.y, .int .i64 a.k, .int .i64 a.n, .string (tx a.s), .int .i64 a.x, .int .i64 a.y] rfl).old _
  have HO1 : Hid (Blk ((w.alloc (.cells #[.string (tx k), .int .i64 v.k, .int .i64 v.n, .string (tx v.s), .int .i64 v.x, .int .i64 v.y, .int .i64 a.k, .int .i64 a.n, .string (tx a.s), .int .i64 a.x, .int .i64 a.y] 28)).alloc (.cells #[.string (tx k2), .int .i64 v2.k, .int .i64 v2.n, .string (tx v2.s), .int .i64 v2.x, .int .i64 v2.y, .int .i64 a2.k, .int .i64 a2.n, .string (tx a2.s), .int .i64 a2.x, .int .i64 a2.y] 28)) (w.heap.size + 1) [.string (tx k2), .int .i64 v2.k, .int .i64 v2.n, .string (tx v2.s), .int .i64 v2.x, .int .i64 v2.y, .int .i64 a2.k, .int .i64 a2.n, .string (tx a2.s), .int .i64 a2.x, .int .i64 a2.y]) := Blk.made _ 28 [.string (tx k2), .int .i64 v2.k, .int .i64 v2.n, .string (tx v2.s), .int .i64 v2.x, .int .i64 v2.y, .int .i64 a2.k, .int .i64 a2.n, .string (tx a2.s), .int .i64 a2.x, .int .i64 a2.y] (World.size_alloc _ _)
  obtain ⟨w1, hw1⟩ : ∃ w1, (w.alloc (.cells #[.string (tx k), .int .i64 v.k, .int .i64 v.n, .string (tx v.s), .int .i64 v.x, .int .i64 v.y, .int .i64 a.k, .int .i64 a.n, .string (tx a.s), .int .i64 a.x, .int .i64 a.y] 28)).alloc (.cells #[.string (tx k2), .int .i64 v2.k, .int .i64 v2.n, .string (tx v2.s), .int .i64 v2.x, .int .i64 v2.y, .int .i64 a2.k, .int .i64 a2.n, .string (tx a2.s), .int .i64 a2.x, .int .i64 a2.y] 28) = w1 := ⟨_, rfl⟩
  rw [hw1] at HB1 HE1 HO1
  rw [hw1]
  clear hw1 HB0
  go_wp2_with (fail)
  refine (HAW.out _ HB1.out).mono ?_
  rintro e w2 ⟨rfl, hb⟩
  have HB2 := Lib.hid (Below.next HB1.out hb)
  have HE2 := Lib.hid (HE1.out.next hb)
  have HO2 := Lib.hid (HO1.out.next hb)
  clear HB1 HE1 HO1  hb
  have hltE_ := HE2.out.lt
  have qE0 := HE2.out.c 0 _ rfl
  have qE1 := HE2.out.c 1 _ rfl
  have qE2 := HE2.out.c 2 _ rfl
  have qE3 := HE2.out.c 3 _ rfl
  have qE4 := HE2.out.c 4 _ rfl
  have qE5 := HE2.out.c 5 _ rfl
  have qE6 := HE2.out.c 6 _ rfl
  have qE7 := HE2.out.c 7 _ rfl
  have qE8 := HE2.out.c 8 _ rfl
  have qE9 := HE2.out.c 9 _ rfl
  have qE10 := HE2.out.c 10 _ rfl
  go_wp2_with (fail)
  refine (few9_any l A c k v a _ (HNl.out.next HB2.out)).mono ?_
  rintro e w3 ⟨fb, rfl, hb, h01⟩
  have HB3 := Lib.hid (Below.next HB2.out hb)
  have HE3 := Lib.hid (HE2.out.next hb)
  have HO3 := Lib.hid (HO2.out.next hb)
  clear HB2 HE2 HO2 hltE_ qE0 qE1 qE2 qE3 qE4 qE5 qE6 qE7 qE8 qE9 qE10 hb
  rcases h01 with rfl | ⟨rfl, hlenE⟩
  · skip
    go_wp2_with (fail)
    refine (HAW.out _ HB3.out).mono ?_
    rintro e w4 ⟨rfl, hb⟩
    have HB4 := Lib.hid (Below.next HB3.out hb)
    have HE4 := Lib.hid (HE3.out.next hb)
    have HO4 := Lib.hid (HO3.out.next hb)
    clear HB3 HE3 HO3  hb
    go_wp2_with (fail)
    go_ret
    exact ⟨rfl, HB4.out⟩
  have hltO_ := HO3.out.lt
  have qO0 := HO3.out.c 0 _ rfl
  have qO1 := HO3.out.c 1 _ rfl
  have qO2 := HO3.out.c 2 _ rfl
  have qO3 := HO3.out.c 3 _ rfl
  have qO4 := HO3.out.c 4 _ rfl
  have qO5 := HO3.out.c 5 _ rfl
  have qO6 := HO3.out.c 6 _ rfl
  have qO7 := HO3.out.c 7 _ rfl
  have qO8 := HO3.out.c 8 _ rfl
  have qO9 := HO3.out.c 9 _ rfl
  have qO10 := HO3.out.c 10 _ rfl
  go_wp2_with (fail)
  refine (few9_any l A c k2 v2 a2 _ (HNl.out.next HB3.out)).mono ?_
  rintro e w4 ⟨fb, rfl, hb, h01⟩
  have HB4 := Lib.hid (Below.next HB3.out hb)
  have HE4 := Lib.hid (HE3.out.next hb)
  have HO4 := Lib.hid (HO3.out.next hb)
  clear HB3 HE3 HO3 hltO_ qO0 qO1 qO2 qO3 qO4 qO5 qO6 qO7 qO8 qO9 qO10 hb
  rcases h01 with rfl | ⟨rfl, hlenO⟩
  · skip
    go_wp2_with (fail)
    refine (HAW.out _ HB4.out).mono ?_
    rintro e w5 ⟨rfl, hb⟩
    have HB5 := Lib.hid (Below.next HB4.out hb)
    have HE5 := Lib.hid (HE4.out.next hb)
    have HO5 := Lib.hid (HO4.out.next hb)
    clear HB4 HE4 HO4  hb
    go_wp2_with (fail)
    go_ret
    exact ⟨rfl, HB5.out⟩
  go_wp2_with (fail)
  have hlt1 := HO4.out.lt
  refine (HOF.out _ HB4.out (by omega)).mono ?_
  rintro e w5 ⟨Ap, cp, rfl, hop, hb⟩
  have HP5 : Hid (Nds w5 Ap l) := Nds.of_own hop
  have HPF := Lib.hid (own_far hop hlt1)
  clear hop hlt1
  have HB5 := Lib.hid (Below.next HB4.out hb)
  have HE5 := Lib.hid (HE4.out.next hb)
  have HO5 := Lib.hid (HO4.out.next hb)
  clear HB4 HE4 HO4  hb
  obtain ⟨n0, hn0⟩ : ∃ n0, (Rt l && hasN l l.length 0) = n0 := ⟨_, rfl⟩
  obtain ⟨n1, hn1⟩ : ∃ n1, (Rt l && hasN l l.length 1) = n1 := ⟨_, rfl⟩
  obtain ⟨n2, hn2⟩ : ∃ n2, (Rt l && hasN l l.length 2) = n2 := ⟨_, rfl⟩
  obtain ⟨n3, n4, hnm⟩ : ∃ n3 n4, nmv l = .agg #[.bool n0, .bool n1, .bool n2, .bool n3, .bool n4] := by
    unfold nmv hnv
    rw [← hn0, ← hn1, ← hn2]
    rcases Bool.eq_false_or_eq_true (Rt l) with h | h
    · rw [if_pos h, h]; exact ⟨hasN l l.length 3, hasN l l.length 4, by simp⟩
    · rw [if_neg (by rw [h]; decide), h]; exact ⟨false, false, by simp⟩
  have HALI : Hid (∀ (K' : List UInt8) (V' A' : Va), (n0 = true → k = K') → (n1 = true → v = V') → (n2 = true → a = A') → Rt l = true → Ali k v a K' V' A' l) := fun K' V' A' h0 h1 h2 hr =>
    ali_of (fun e => h0 (by rw [← hn0, hr, e]; rfl)) (fun e => h1 (by rw [← hn1, hr, e]; rfl)) (fun e => h2 (by rw [← hn2, hr, e]; rfl))
  rw [hnm] at HNM
  clear hn0 hn1 hn2 hnm
  go_wp2_with (fail)
  refine (HNM.out _ HB5.out Ap cp HP5.out (by omega)).mono ?_
  rintro e w6 ⟨rfl, hb⟩
  have HB6 := Lib.hid (Below.next HB5.out hb)
  have HE6 := Lib.hid (HE5.out.next hb)
  have HO6 := Lib.hid (HO5.out.next hb)
  have HP6 := Lib.hid (HP5.out.next hb)
  clear HB5 HE5 HO5 HP5  hb
  have hEO : w.heap.size ≠ w.heap.size + 1 := by omega
  have hOE : w.heap.size + 1 ≠ w.heap.size := by omega
  cases n0
  · skip
    cases n1
    · skip
      cases n2
      · skip
        have hltE_ := HE6.out.lt
        have qE0 := HE6.out.c 0 _ rfl
        have qE1 := HE6.out.c 1 _ rfl
        have qE2 := HE6.out.c 2 _ rfl
        have qE3 := HE6.out.c 3 _ rfl
        have qE4 := HE6.out.c 4 _ rfl
        have qE5 := HE6.out.c 5 _ rfl
        have qE6 := HE6.out.c 6 _ rfl
        have qE7 := HE6.out.c 7 _ rfl
        have qE8 := HE6.out.c 8 _ rfl
        have qE9 := HE6.out.c 9 _ rfl
        have qE10 := HE6.out.c 10 _ rfl
        have hltO_ := HO6.out.lt
        have qO0 := HO6.out.c 0 _ rfl
        have qO1 := HO6.out.c 1 _ rfl
        have qO2 := HO6.out.c 2 _ rfl
        have qO3 := HO6.out.c 3 _ rfl
        have qO4 := HO6.out.c 4 _ rfl
        have qO5 := HO6.out.c 5 _ rfl
        have qO6 := HO6.out.c 6 _ rfl
        have qO7 := HO6.out.c 7 _ rfl
        have qO8 := HO6.out.c 8 _ rfl
        have qO9 := HO6.out.c 9 _ rfl
        have qO10 := HO6.out.c 10 _ rfl
        have z0 := HO6.out.f 0 _ rfl
        have z1 := HO6.out.f 1 _ rfl
        have z2 := HO6.out.f 2 _ rfl
        have z3 := HO6.out.f 3 _ rfl
        have z4 := HO6.out.f 4 _ rfl
        have z5 := HO6.out.f 5 _ rfl
        have z6 := HO6.out.f 6 _ rfl
        have z7 := HO6.out.f 7 _ rfl
        have z8 := HO6.out.f 8 _ rfl
        have z9 := HO6.out.f 9 _ rfl
        have z10 := HO6.out.f 10 _ rfl
        go_wp2_with (fail)
        have hb9 := HB6.out
        have he9 := HE6.out
        have ho9 := HO6.out
        have hp9 := HP6.out
        change Blk _ _ [.string (tx k2), .int .i64 v2.k, .int .i64 v2.n, .string (tx v2.s), .int .i64 v2.x, .int .i64 v2.y, .int .i64 a2.k, .int .i64 a2.n, .string (tx a2.s), .int .i64 a2.x, .int .i64 a2.y] at ho9
        change Calls _ _ _ (w6.alloc (.cells #[.bool false, .bool false, .bool false, .bool n3, .bool n4] 52)) _
        obtain ⟨x9, hx9⟩ : ∃ x9, w6 = x9 := ⟨_, rfl⟩
        rw [hx9] at hb9 he9 ho9 hp9 ⊢
        clear hx9
        have HB7 := Lib.hid (Below.next hb9 (box1 x9 (.cells #[.bool false, .bool false, .bool false, .bool n3, .bool n4] 52))); have HE7 := Lib.hid (he9.old (.cells #[.bool false, .bool false, .bool false, .bool n3, .bool n4] 52)); have HO7 := Lib.hid (ho9.old (.cells #[.bool false, .bool false, .bool false, .bool n3, .bool n4] 52)); have HP7 := Lib.hid (hp9.next (box1 x9 (.cells #[.bool false, .bool false, .bool false, .bool n3, .bool n4] 52)))
        obtain ⟨w7, hw7⟩ : ∃ w7, x9.alloc (.cells #[.bool false, .bool false, .bool false, .bool n3, .bool n4] 52) = w7 := ⟨_, rfl⟩
        rw [hw7] at HB7 HE7 HO7 HP7 ⊢
        clear HB6 HE6 HO6 HP6 hltE_ qE0 qE1 qE2 qE3 qE4 qE5 qE6 qE7 qE8 qE9 qE10 hltO_ qO0 qO1 qO2 qO3 qO4 qO5 qO6 qO7 qO8 qO9 qO10 z0 z1 z2 z3 z4 z5 z6 z7 z8 z9 z10 hb9 he9 ho9 hp9 hw7
        have htwo := names_two (HALI.out k2 v2 a2 (fun h => by cases h) (fun h => by cases h) (fun h => by cases h)) ((q : Int) % 3000)
        rcases htwo with htwo | ⟨x, hx1, hx2⟩ | ⟨u, S, S2, m, hx1, hx2, hSS⟩
        · skip
          have hltE_ := HE7.out.lt
          have qE0 := HE7.out.c 0 _ rfl
          have qE1 := HE7.out.c 1 _ rfl
          have qE2 := HE7.out.c 2 _ rfl
          have qE3 := HE7.out.c 3 _ rfl
          have qE4 := HE7.out.c 4 _ rfl
          have qE5 := HE7.out.c 5 _ rfl
          have qE6 := HE7.out.c 6 _ rfl
          have qE7 := HE7.out.c 7 _ rfl
          have qE8 := HE7.out.c 8 _ rfl
          have qE9 := HE7.out.c 9 _ rfl
          have qE10 := HE7.out.c 10 _ rfl
          refine (HRU.out k v a ((q : Int) % 3000) _ HB7.out Ap cp HP7.out (by omega)).mono ?_
          rintro e w8 ⟨hb, hq1⟩
          have HB8 := Lib.hid (Below.next HB7.out hb)
          have HE8 := Lib.hid (HE7.out.next hb)
          have HO8 := Lib.hid (HO7.out.next hb)
          have HP8 := Lib.hid (HP7.out.next hb)
          clear HB7 HE7 HO7 HP7 hltE_ qE0 qE1 qE2 qE3 qE4 qE5 qE6 qE7 qE8 qE9 qE10 hb
          obtain ⟨X1, hX1⟩ : ∃ X, rnX l k v a ((q : Int) % 3000) = X := ⟨_, rfl⟩
          rw [hX1] at hq1 htwo
          obtain ⟨X2, hX2⟩ : ∃ X, rnX l k2 v2 a2 ((q : Int) % 3000) = X := ⟨_, rfl⟩
          rw [hX2] at htwo
          clear hX1
          cases X1 with
          | er y1 =>
            obtain ⟨hy1, rfl⟩ := hq1
            have hy2 : (y1 == 0) = false := by simpa using hy1
            have hltO_ := HO8.out.lt
            have qO0 := HO8.out.c 0 _ rfl
            have qO1 := HO8.out.c 1 _ rfl
            have qO2 := HO8.out.c 2 _ rfl
            have qO3 := HO8.out.c 3 _ rfl
            have qO4 := HO8.out.c 4 _ rfl
            have qO5 := HO8.out.c 5 _ rfl
            have qO6 := HO8.out.c 6 _ rfl
            have qO7 := HO8.out.c 7 _ rfl
            have qO8 := HO8.out.c 8 _ rfl
            have qO9 := HO8.out.c 9 _ rfl
            have qO10 := HO8.out.c 10 _ rfl
            go_wp2_with (fail)
            have HB9 := Lib.hid (Below.next HB8.out (box1 w8 (.cells #[.int .i64 0, .int .i64 0, .string ⟨#[]⟩, .int .i64 0, .int .i64 0, .slice none 0 0, .int .i64 0] 36)))
            have HE9 := Lib.hid (HE8.out.next (box1 w8 (.cells #[.int .i64 0, .int .i64 0, .string ⟨#[]⟩, .int .i64 0, .int .i64 0, .slice none 0 0, .int .i64 0] 36)))
            have HO9 := Lib.hid (HO8.out.next (box1 w8 (.cells #[.int .i64 0, .int .i64 0, .string ⟨#[]⟩, .int .i64 0, .int .i64 0, .slice none 0 0, .int .i64 0] 36)))
            have HP9 := Lib.hid (HP8.out.next (box1 w8 (.cells #[.int .i64 0, .int .i64 0, .string ⟨#[]⟩, .int .i64 0, .int .i64 0, .slice none 0 0, .int .i64 0] 36)))
            have HRA9 : Hid (Blk (w8.alloc (.cells #[.int .i64 0, .int .i64 0, .string ⟨#[]⟩, .int .i64 0, .int .i64 0, .slice none 0 0, .int .i64 0] 36)) w8.heap.size [.int .i64 0, .int .i64 0, .string ⟨#[]⟩, .int .i64 0, .int .i64 0, .slice none 0 0, .int .i64 0]) := Blk.made w8 36 [.int .i64 0, .int .i64 0, .string ⟨#[]⟩, .int .i64 0, .int .i64 0, .slice none 0 0, .int .i64 0] rfl
            obtain ⟨w9, hw9⟩ : ∃ w9, w8.alloc (.cells #[.int .i64 0, .int .i64 0, .string ⟨#[]⟩, .int .i64 0, .int .i64 0, .slice none 0 0, .int .i64 0] 36) = w9 := ⟨_, rfl⟩
            rw [hw9] at HB9 HE9 HO9 HP9 HRA9
            rw [hw9]
            obtain ⟨bRA, hbRA⟩ : ∃ b, w8.heap.size = b := ⟨_, rfl⟩
            rw [hbRA] at HRA9
            simp only [hbRA]
            clear HB8 HE8 HO8 HP8 hltO_ qO0 qO1 qO2 qO3 qO4 qO5 qO6 qO7 qO8 qO9 qO10 hw9 hbRA
            have hltO_ := HO9.out.lt
            have qO0 := HO9.out.c 0 _ rfl
            have qO1 := HO9.out.c 1 _ rfl
            have qO2 := HO9.out.c 2 _ rfl
            have qO3 := HO9.out.c 3 _ rfl
            have qO4 := HO9.out.c 4 _ rfl
            have qO5 := HO9.out.c 5 _ rfl
            have qO6 := HO9.out.c 6 _ rfl
            have qO7 := HO9.out.c 7 _ rfl
            have qO8 := HO9.out.c 8 _ rfl
            have qO9 := HO9.out.c 9 _ rfl
            have qO10 := HO9.out.c 10 _ rfl
            refine (HRU.out k2 v2 a2 ((q : Int) % 3000) _ HB9.out Ap cp HP9.out (by omega)).mono ?_
            rintro e w10 ⟨hb, hq2⟩
            have HB10 := Lib.hid (Below.next HB9.out hb)
            have HE10 := Lib.hid (HE9.out.next hb)
            have HO10 := Lib.hid (HO9.out.next hb)
            have HP10 := Lib.hid (HP9.out.next hb)
            have HRA10 := Lib.hid (HRA9.out.next hb)
            clear HB9 HE9 HO9 HP9 HRA9 hltO_ qO0 qO1 qO2 qO3 qO4 qO5 qO6 qO7 qO8 qO9 qO10 hb
            rw [hX2] at hq2
            clear hX2
            cases X2 with
            | er y2 =>
              obtain ⟨_, rfl⟩ := hq2
              rcases htwo with h | h <;> injection h with h <;> subst h
              all_goals
                go_wp2_with (fail)
                all_goals
                  go_ret
                  exact ⟨by simp, Below.next HB10.out (box1 _ _)⟩
            | ok u2 S2 m2 =>
              obtain ⟨Ao2, co2, _, rfl⟩ := hq2
              obtain rfl : y1 = 1 := by
                rcases htwo with h | h
                · injection h
                · cases h
              go_wp2_with (fail)
              go_ret
              exact ⟨by simp, Below.next HB10.out (box1 _ _)⟩
          | ok u1 S1 m1 =>
            obtain ⟨Ao, co, _, rfl⟩ := hq1
            have hltO_ := HO8.out.lt
            have qO0 := HO8.out.c 0 _ rfl
            have qO1 := HO8.out.c 1 _ rfl
            have qO2 := HO8.out.c 2 _ rfl
            have qO3 := HO8.out.c 3 _ rfl
            have qO4 := HO8.out.c 4 _ rfl
            have qO5 := HO8.out.c 5 _ rfl
            have qO6 := HO8.out.c 6 _ rfl
            have qO7 := HO8.out.c 7 _ rfl
            have qO8 := HO8.out.c 8 _ rfl
            have qO9 := HO8.out.c 9 _ rfl
            have qO10 := HO8.out.c 10 _ rfl
            go_wp2_with (fail)
            have HB9 := Lib.hid (Below.next HB8.out (box1 w8 (.cells #[.int .i64 u1.k, .int .i64 u1.n, .string (tx u1.s), .int .i64 u1.x, .int .i64 u1.y, .slice Ao S1.out.length co, .int .i64 (m1 : Int)] 36)))
            have HE9 := Lib.hid (HE8.out.next (box1 w8 (.cells #[.int .i64 u1.k, .int .i64 u1.n, .string (tx u1.s), .int .i64 u1.x, .int .i64 u1.y, .slice Ao S1.out.length co, .int .i64 (m1 : Int)] 36)))
            have HO9 := Lib.hid (HO8.out.next (box1 w8 (.cells #[.int .i64 u1.k, .int .i64 u1.n, .string (tx u1.s), .int .i64 u1.x, .int .i64 u1.y, .slice Ao S1.out.length co, .int .i64 (m1 : Int)] 36)))
            have HP9 := Lib.hid (HP8.out.next (box1 w8 (.cells #[.int .i64 u1.k, .int .i64 u1.n, .string (tx u1.s), .int .i64 u1.x, .int .i64 u1.y, .slice Ao S1.out.length co, .int .i64 (m1 : Int)] 36)))
            have HRA9 : Hid (Blk (w8.alloc (.cells #[.int .i64 u1.k, .int .i64 u1.n, .string (tx u1.s), .int .i64 u1.x, .int .i64 u1.y, .slice Ao S1.out.length co, .int .i64 (m1 : Int)] 36)) w8.heap.size [.int .i64 u1.k, .int .i64 u1.n, .string (tx u1.s), .int .i64 u1.x, .int .i64 u1.y, .slice Ao S1.out.length co, .int .i64 (m1 : Int)]) := Blk.made w8 36 [.int .i64 u1.k, .int .i64 u1.n, .string (tx u1.s), .int .i64 u1.x, .int .i64 u1.y, .slice Ao S1.out.length co, .int .i64 (m1 : Int)] rfl
            obtain ⟨w9, hw9⟩ : ∃ w9, w8.alloc (.cells #[.int .i64 u1.k, .int .i64 u1.n, .string (tx u1.s), .int .i64 u1.x, .int .i64 u1.y, .slice Ao S1.out.length co, .int .i64 (m1 : Int)] 36) = w9 := ⟨_, rfl⟩
            rw [hw9] at HB9 HE9 HO9 HP9 HRA9
            rw [hw9]
            obtain ⟨bRA, hbRA⟩ : ∃ b, w8.heap.size = b := ⟨_, rfl⟩
            rw [hbRA] at HRA9
            simp only [hbRA]
            clear HB8 HE8 HO8 HP8 hltO_ qO0 qO1 qO2 qO3 qO4 qO5 qO6 qO7 qO8 qO9 qO10 hw9 hbRA
            have hltO_ := HO9.out.lt
            have qO0 := HO9.out.c 0 _ rfl
            have qO1 := HO9.out.c 1 _ rfl
            have qO2 := HO9.out.c 2 _ rfl
            have qO3 := HO9.out.c 3 _ rfl
            have qO4 := HO9.out.c 4 _ rfl
            have qO5 := HO9.out.c 5 _ rfl
            have qO6 := HO9.out.c 6 _ rfl
            have qO7 := HO9.out.c 7 _ rfl
            have qO8 := HO9.out.c 8 _ rfl
            have qO9 := HO9.out.c 9 _ rfl
            have qO10 := HO9.out.c 10 _ rfl
            refine (HRU.out k2 v2 a2 ((q : Int) % 3000) _ HB9.out Ap cp HP9.out (by omega)).mono ?_
            rintro e w10 ⟨hb, hq2⟩
            have HB10 := Lib.hid (Below.next HB9.out hb)
            have HE10 := Lib.hid (HE9.out.next hb)
            have HO10 := Lib.hid (HO9.out.next hb)
            have HP10 := Lib.hid (HP9.out.next hb)
            have HRA10 := Lib.hid (HRA9.out.next hb)
            clear HB9 HE9 HO9 HP9 HRA9 hltO_ qO0 qO1 qO2 qO3 qO4 qO5 qO6 qO7 qO8 qO9 qO10 hb
            rw [hX2] at hq2
            clear hX2
            cases X2 with
            | er y2 =>
              obtain ⟨_, rfl⟩ := hq2
              obtain rfl : y2 = 1 := by
                rcases htwo with h | h
                · cases h
                · injection h
              go_wp2_with (fail)
              go_ret
              exact ⟨by simp, Below.next HB10.out (box1 _ _)⟩
            | ok u2 S2 m2 =>
              obtain ⟨Ao2, co2, _, rfl⟩ := hq2
              rcases htwo with h | h <;> cases h
        · skip
          have hltE_ := HE7.out.lt
          have qE0 := HE7.out.c 0 _ rfl
          have qE1 := HE7.out.c 1 _ rfl
          have qE2 := HE7.out.c 2 _ rfl
          have qE3 := HE7.out.c 3 _ rfl
          have qE4 := HE7.out.c 4 _ rfl
          have qE5 := HE7.out.c 5 _ rfl
          have qE6 := HE7.out.c 6 _ rfl
          have qE7 := HE7.out.c 7 _ rfl
          have qE8 := HE7.out.c 8 _ rfl
          have qE9 := HE7.out.c 9 _ rfl
          have qE10 := HE7.out.c 10 _ rfl
          refine (HRU.out k v a ((q : Int) % 3000) _ HB7.out Ap cp HP7.out (by omega)).mono ?_
          rintro e w8 ⟨hb, hq1⟩
          have HB8 := Lib.hid (Below.next HB7.out hb)
          have HE8 := Lib.hid (HE7.out.next hb)
          have HO8 := Lib.hid (HO7.out.next hb)
          have HP8 := Lib.hid (HP7.out.next hb)
          clear HB7 HE7 HO7 HP7 hltE_ qE0 qE1 qE2 qE3 qE4 qE5 qE6 qE7 qE8 qE9 qE10 hb
          rw [hx1] at hq1
          obtain ⟨hy1, rfl⟩ := hq1
          have hltO_ := HO8.out.lt
          have qO0 := HO8.out.c 0 _ rfl
          have qO1 := HO8.out.c 1 _ rfl
          have qO2 := HO8.out.c 2 _ rfl
          have qO3 := HO8.out.c 3 _ rfl
          have qO4 := HO8.out.c 4 _ rfl
          have qO5 := HO8.out.c 5 _ rfl
          have qO6 := HO8.out.c 6 _ rfl
          have qO7 := HO8.out.c 7 _ rfl
          have qO8 := HO8.out.c 8 _ rfl
          have qO9 := HO8.out.c 9 _ rfl
          have qO10 := HO8.out.c 10 _ rfl
          go_wp2_with (fail)
          have HB9 := Lib.hid (Below.next HB8.out (box1 w8 (.cells #[.int .i64 0, .int .i64 0, .string ⟨#[]⟩, .int .i64 0, .int .i64 0, .slice none 0 0, .int .i64 0] 36)))
          have HE9 := Lib.hid (HE8.out.next (box1 w8 (.cells #[.int .i64 0, .int .i64 0, .string ⟨#[]⟩, .int .i64 0, .int .i64 0, .slice none 0 0, .int .i64 0] 36)))
          have HO9 := Lib.hid (HO8.out.next (box1 w8 (.cells #[.int .i64 0, .int .i64 0, .string ⟨#[]⟩, .int .i64 0, .int .i64 0, .slice none 0 0, .int .i64 0] 36)))
          have HP9 := Lib.hid (HP8.out.next (box1 w8 (.cells #[.int .i64 0, .int .i64 0, .string ⟨#[]⟩, .int .i64 0, .int .i64 0, .slice none 0 0, .int .i64 0] 36)))
          have HRA9 : Hid (Blk (w8.alloc (.cells #[.int .i64 0, .int .i64 0, .string ⟨#[]⟩, .int .i64 0, .int .i64 0, .slice none 0 0, .int .i64 0] 36)) w8.heap.size [.int .i64 0, .int .i64 0, .string ⟨#[]⟩, .int .i64 0, .int .i64 0, .slice none 0 0, .int .i64 0]) := Blk.made w8 36 [.int .i64 0, .int .i64 0, .string ⟨#[]⟩, .int .i64 0, .int .i64 0, .slice none 0 0, .int .i64 0] rfl
          obtain ⟨w9, hw9⟩ : ∃ w9, w8.alloc (.cells #[.int .i64 0, .int .i64 0, .string ⟨#[]⟩, .int .i64 0, .int .i64 0, .slice none 0 0, .int .i64 0] 36) = w9 := ⟨_, rfl⟩
          rw [hw9] at HB9 HE9 HO9 HP9 HRA9
          rw [hw9]
          obtain ⟨bRA, hbRA⟩ : ∃ b, w8.heap.size = b := ⟨_, rfl⟩
          rw [hbRA] at HRA9
          simp only [hbRA]
          clear HB8 HE8 HO8 HP8 hltO_ qO0 qO1 qO2 qO3 qO4 qO5 qO6 qO7 qO8 qO9 qO10 hw9 hbRA
          have hltO_ := HO9.out.lt
          have qO0 := HO9.out.c 0 _ rfl
          have qO1 := HO9.out.c 1 _ rfl
          have qO2 := HO9.out.c 2 _ rfl
          have qO3 := HO9.out.c 3 _ rfl
          have qO4 := HO9.out.c 4 _ rfl
          have qO5 := HO9.out.c 5 _ rfl
          have qO6 := HO9.out.c 6 _ rfl
          have qO7 := HO9.out.c 7 _ rfl
          have qO8 := HO9.out.c 8 _ rfl
          have qO9 := HO9.out.c 9 _ rfl
          have qO10 := HO9.out.c 10 _ rfl
          refine (HRU.out k2 v2 a2 ((q : Int) % 3000) _ HB9.out Ap cp HP9.out (by omega)).mono ?_
          rintro e w10 ⟨hb, hq2⟩
          have HB10 := Lib.hid (Below.next HB9.out hb)
          have HE10 := Lib.hid (HE9.out.next hb)
          have HO10 := Lib.hid (HO9.out.next hb)
          have HP10 := Lib.hid (HP9.out.next hb)
          have HRA10 := Lib.hid (HRA9.out.next hb)
          clear HB9 HE9 HO9 HP9 HRA9 hltO_ qO0 qO1 qO2 qO3 qO4 qO5 qO6 qO7 qO8 qO9 qO10 hb
          rw [hx2] at hq2
          obtain ⟨_, rfl⟩ := hq2
          have hltRA_ := HRA10.out.lt
          have qRA0 := HRA10.out.c 0 _ rfl
          have qRA1 := HRA10.out.c 1 _ rfl
          have qRA2 := HRA10.out.c 2 _ rfl
          have qRA3 := HRA10.out.c 3 _ rfl
          have qRA4 := HRA10.out.c 4 _ rfl
          have qRA5 := HRA10.out.c 5 _ rfl
          have qRA6 := HRA10.out.c 6 _ rfl
          have hEV : ∀ W, (binOp .eql 26 (.agg #[.int .i64 vz.k, .int .i64 vz.n, .string (tx vz.s), .int .i64 vz.x, .int .i64 vz.y]) (.agg #[.int .i64 vz.k, .int .i64 vz.n, .string (tx vz.s), .int .i64 vz.x, .int .i64 vz.y])).run Tryz.prog W = .ok (.bool true) W := fun W => eql_va vz vz W
          change ∀ W, (binOp .eql 26 (.agg #[.int .i64 0, .int .i64 0, .string ⟨#[]⟩, .int .i64 0, .int .i64 0]) (.agg #[.int .i64 0, .int .i64 0, .string ⟨#[]⟩, .int .i64 0, .int .i64 0])).run Tryz.prog W = .ok (.bool true) W at hEV
          by_cases hy3 : x = 1
          · subst hy3
            go_wp2_with (fail)
            go_ret
            exact ⟨by simp, Below.next HB10.out (box1 _ _)⟩
          · have hy4 : (x == 1) = false := by simpa using hy3
            go_wp2_with (fail)
            have HB11 := Lib.hid (Below.next HB10.out (box1 w10 (.cells #[.int .i64 0, .int .i64 0, .string ⟨#[]⟩, .int .i64 0, .int .i64 0, .slice none 0 0, .int .i64 0] 36)))
            have HE11 := Lib.hid (HE10.out.next (box1 w10 (.cells #[.int .i64 0, .int .i64 0, .string ⟨#[]⟩, .int .i64 0, .int .i64 0, .slice none 0 0, .int .i64 0] 36)))
            have HO11 := Lib.hid (HO10.out.next (box1 w10 (.cells #[.int .i64 0, .int .i64 0, .string ⟨#[]⟩, .int .i64 0, .int .i64 0, .slice none 0 0, .int .i64 0] 36)))
            have HP11 := Lib.hid (HP10.out.next (box1 w10 (.cells #[.int .i64 0, .int .i64 0, .string ⟨#[]⟩, .int .i64 0, .int .i64 0, .slice none 0 0, .int .i64 0] 36)))
            have HRA11 := Lib.hid (HRA10.out.next (box1 w10 (.cells #[.int .i64 0, .int .i64 0, .string ⟨#[]⟩, .int .i64 0, .int .i64 0, .slice none 0 0, .int .i64 0] 36)))
            have HRB11 : Hid (Blk (w10.alloc (.cells #[.int .i64 0, .int .i64 0, .string ⟨#[]⟩, .int .i64 0, .int .i64 0, .slice none 0 0, .int .i64 0] 36)) w10.heap.size [.int .i64 0, .int .i64 0, .string ⟨#[]⟩, .int .i64 0, .int .i64 0, .slice none 0 0, .int .i64 0]) := Blk.made w10 36 [.int .i64 0, .int .i64 0, .string ⟨#[]⟩, .int .i64 0, .int .i64 0, .slice none 0 0, .int .i64 0] rfl
            obtain ⟨w11, hw11⟩ : ∃ w11, w10.alloc (.cells #[.int .i64 0, .int .i64 0, .string ⟨#[]⟩, .int .i64 0, .int .i64 0, .slice none 0 0, .int .i64 0] 36) = w11 := ⟨_, rfl⟩
            rw [hw11] at HB11 HE11 HO11 HP11 HRA11 HRB11
            rw [hw11]
            obtain ⟨bRB, hbRB⟩ : ∃ b, w10.heap.size = b := ⟨_, rfl⟩
            rw [hbRB] at HRB11
            simp only [hbRB]
            clear HB10 HE10 HO10 HP10 HRA10 hltRA_ qRA0 qRA1 qRA2 qRA3 qRA4 qRA5 qRA6 hw11 hbRB
            refine (same_pairs [] none none 0 0 _ (fun h => absurd h (by decide)) (fun h => absurd h (by decide)) (by decide)).mono ?_
            rintro e w12 ⟨rfl, hb⟩
            have HB12 := Lib.hid (Below.next HB11.out hb)
            have HE12 := Lib.hid (HE11.out.next hb)
            have HO12 := Lib.hid (HO11.out.next hb)
            have HP12 := Lib.hid (HP11.out.next hb)
            have HRA12 := Lib.hid (HRA11.out.next hb)
            have HRB12 := Lib.hid (HRB11.out.next hb)
            clear HB11 HE11 HO11 HP11 HRA11 HRB11  hb
            go_wp2_with (fail)
            go_ret
            exact ⟨by simp, HB12.out⟩
        · skip
          have hSo := (rnX_left hx1).2.2.1
          have hltE_ := HE7.out.lt
          have qE0 := HE7.out.c 0 _ rfl
          have qE1 := HE7.out.c 1 _ rfl
          have qE2 := HE7.out.c 2 _ rfl
          have qE3 := HE7.out.c 3 _ rfl
          have qE4 := HE7.out.c 4 _ rfl
          have qE5 := HE7.out.c 5 _ rfl
          have qE6 := HE7.out.c 6 _ rfl
          have qE7 := HE7.out.c 7 _ rfl
          have qE8 := HE7.out.c 8 _ rfl
          have qE9 := HE7.out.c 9 _ rfl
          have qE10 := HE7.out.c 10 _ rfl
          refine (HRU.out k v a ((q : Int) % 3000) _ HB7.out Ap cp HP7.out (by omega)).mono ?_
          rintro e w8 ⟨hb, hq1⟩
          have HB8 := Lib.hid (Below.next HB7.out hb)
          have HE8 := Lib.hid (HE7.out.next hb)
          have HO8 := Lib.hid (HO7.out.next hb)
          have HP8 := Lib.hid (HP7.out.next hb)
          clear HB7 HE7 HO7 HP7 hltE_ qE0 qE1 qE2 qE3 qE4 qE5 qE6 qE7 qE8 qE9 qE10 hb
          rw [hx1] at hq1
          obtain ⟨Ao, co, ho, rfl⟩ := hq1
          have HS8 : Hid (Prs w8 Ao S.out) := Prs.of_own ho
          clear ho
          have hltO_ := HO8.out.lt
          have qO0 := HO8.out.c 0 _ rfl
          have qO1 := HO8.out.c 1 _ rfl
          have qO2 := HO8.out.c 2 _ rfl
          have qO3 := HO8.out.c 3 _ rfl
          have qO4 := HO8.out.c 4 _ rfl
          have qO5 := HO8.out.c 5 _ rfl
          have qO6 := HO8.out.c 6 _ rfl
          have qO7 := HO8.out.c 7 _ rfl
          have qO8 := HO8.out.c 8 _ rfl
          have qO9 := HO8.out.c 9 _ rfl
          have qO10 := HO8.out.c 10 _ rfl
          go_wp2_with (fail)
          have HB9 := Lib.hid (Below.next HB8.out (box1 w8 (.cells #[.int .i64 u.k, .int .i64 u.n, .string (tx u.s), .int .i64 u.x, .int .i64 u.y, .slice Ao S.out.length co, .int .i64 (m : Int)] 36)))
          have HE9 := Lib.hid (HE8.out.next (box1 w8 (.cells #[.int .i64 u.k, .int .i64 u.n, .string (tx u.s), .int .i64 u.x, .int .i64 u.y, .slice Ao S.out.length co, .int .i64 (m : Int)] 36)))
          have HO9 := Lib.hid (HO8.out.next (box1 w8 (.cells #[.int .i64 u.k, .int .i64 u.n, .string (tx u.s), .int .i64 u.x, .int .i64 u.y, .slice Ao S.out.length co, .int .i64 (m : Int)] 36)))
          have HP9 := Lib.hid (HP8.out.next (box1 w8 (.cells #[.int .i64 u.k, .int .i64 u.n, .string (tx u.s), .int .i64 u.x, .int .i64 u.y, .slice Ao S.out.length co, .int .i64 (m : Int)] 36)))
          have HS9 := Lib.hid (HS8.out.next (box1 w8 (.cells #[.int .i64 u.k, .int .i64 u.n, .string (tx u.s), .int .i64 u.x, .int .i64 u.y, .slice Ao S.out.length co, .int .i64 (m : Int)] 36)))
          have HRA9 : Hid (Blk (w8.alloc (.cells #[.int .i64 u.k, .int .i64 u.n, .string (tx u.s), .int .i64 u.x, .int .i64 u.y, .slice Ao S.out.length co, .int .i64 (m : Int)] 36)) w8.heap.size [.int .i64 u.k, .int .i64 u.n, .string (tx u.s), .int .i64 u.x, .int .i64 u.y, .slice Ao S.out.length co, .int .i64 (m : Int)]) := Blk.made w8 36 [.int .i64 u.k, .int .i64 u.n, .string (tx u.s), .int .i64 u.x, .int .i64 u.y, .slice Ao S.out.length co, .int .i64 (m : Int)] rfl
          obtain ⟨w9, hw9⟩ : ∃ w9, w8.alloc (.cells #[.int .i64 u.k, .int .i64 u.n, .string (tx u.s), .int .i64 u.x, .int .i64 u.y, .slice Ao S.out.length co, .int .i64 (m : Int)] 36) = w9 := ⟨_, rfl⟩
          rw [hw9] at HB9 HE9 HO9 HP9 HS9 HRA9
          rw [hw9]
          obtain ⟨bRA, hbRA⟩ : ∃ b, w8.heap.size = b := ⟨_, rfl⟩
          rw [hbRA] at HRA9
          simp only [hbRA]
          clear HB8 HE8 HO8 HP8 HS8 hltO_ qO0 qO1 qO2 qO3 qO4 qO5 qO6 qO7 qO8 qO9 qO10 hw9 hbRA
          have hltO_ := HO9.out.lt
          have qO0 := HO9.out.c 0 _ rfl
          have qO1 := HO9.out.c 1 _ rfl
          have qO2 := HO9.out.c 2 _ rfl
          have qO3 := HO9.out.c 3 _ rfl
          have qO4 := HO9.out.c 4 _ rfl
          have qO5 := HO9.out.c 5 _ rfl
          have qO6 := HO9.out.c 6 _ rfl
          have qO7 := HO9.out.c 7 _ rfl
          have qO8 := HO9.out.c 8 _ rfl
          have qO9 := HO9.out.c 9 _ rfl
          have qO10 := HO9.out.c 10 _ rfl
          refine (HRU.out k2 v2 a2 ((q : Int) % 3000) _ HB9.out Ap cp HP9.out (by omega)).mono ?_
          rintro e w10 ⟨hb, hq2⟩
          have HB10 := Lib.hid (Below.next HB9.out hb)
          have HE10 := Lib.hid (HE9.out.next hb)
          have HO10 := Lib.hid (HO9.out.next hb)
          have HP10 := Lib.hid (HP9.out.next hb)
          have HS10 := Lib.hid (HS9.out.next hb)
          have HRA10 := Lib.hid (HRA9.out.next hb)
          clear HB9 HE9 HO9 HP9 HS9 HRA9 hltO_ qO0 qO1 qO2 qO3 qO4 qO5 qO6 qO7 qO8 qO9 qO10 hb
          rw [hx2] at hq2
          obtain ⟨Ao2, co2, ho, rfl⟩ := hq2
          rw [hSS] at ho ⊢
          have HT10 : Hid (Prs w10 Ao2 S.out) := Prs.of_own ho
          clear ho
          have hltRA_ := HRA10.out.lt
          have qRA0 := HRA10.out.c 0 _ rfl
          have qRA1 := HRA10.out.c 1 _ rfl
          have qRA2 := HRA10.out.c 2 _ rfl
          have qRA3 := HRA10.out.c 3 _ rfl
          have qRA4 := HRA10.out.c 4 _ rfl
          have qRA5 := HRA10.out.c 5 _ rfl
          have qRA6 := HRA10.out.c 6 _ rfl
          have hEV : ∀ W, (binOp .eql 26 (.agg #[.int .i64 u.k, .int .i64 u.n, .string (tx u.s), .int .i64 u.x, .int .i64 u.y]) (.agg #[.int .i64 u.k, .int .i64 u.n, .string (tx u.s), .int .i64 u.x, .int .i64 u.y])).run Tryz.prog W = .ok (.bool true) W := fun W => by
            have h := eql_va u u W
            rwa [show decide (u = u) = true from decide_eq_true rfl] at h
          go_wp2_with (fail)
          have HB11 := Lib.hid (Below.next HB10.out (box1 w10 (.cells #[.int .i64 u.k, .int .i64 u.n, .string (tx u.s), .int .i64 u.x, .int .i64 u.y, .slice Ao2 S.out.length co2, .int .i64 (m : Int)] 36)))
          have HE11 := Lib.hid (HE10.out.next (box1 w10 (.cells #[.int .i64 u.k, .int .i64 u.n, .string (tx u.s), .int .i64 u.x, .int .i64 u.y, .slice Ao2 S.out.length co2, .int .i64 (m : Int)] 36)))
          have HO11 := Lib.hid (HO10.out.next (box1 w10 (.cells #[.int .i64 u.k, .int .i64 u.n, .string (tx u.s), .int .i64 u.x, .int .i64 u.y, .slice Ao2 S.out.length co2, .int .i64 (m : Int)] 36)))
          have HP11 := Lib.hid (HP10.out.next (box1 w10 (.cells #[.int .i64 u.k, .int .i64 u.n, .string (tx u.s), .int .i64 u.x, .int .i64 u.y, .slice Ao2 S.out.length co2, .int .i64 (m : Int)] 36)))
          have HS11 := Lib.hid (HS10.out.next (box1 w10 (.cells #[.int .i64 u.k, .int .i64 u.n, .string (tx u.s), .int .i64 u.x, .int .i64 u.y, .slice Ao2 S.out.length co2, .int .i64 (m : Int)] 36)))
          have HRA11 := Lib.hid (HRA10.out.next (box1 w10 (.cells #[.int .i64 u.k, .int .i64 u.n, .string (tx u.s), .int .i64 u.x, .int .i64 u.y, .slice Ao2 S.out.length co2, .int .i64 (m : Int)] 36)))
          have HT11 := Lib.hid (HT10.out.next (box1 w10 (.cells #[.int .i64 u.k, .int .i64 u.n, .string (tx u.s), .int .i64 u.x, .int .i64 u.y, .slice Ao2 S.out.length co2, .int .i64 (m : Int)] 36)))
          have HRB11 : Hid (Blk (w10.alloc (.cells #[.int .i64 u.k, .int .i64 u.n, .string (tx u.s), .int .i64 u.x, .int .i64 u.y, .slice Ao2 S.out.length co2, .int .i64 (m : Int)] 36)) w10.heap.size [.int .i64 u.k, .int .i64 u.n, .string (tx u.s), .int .i64 u.x, .int .i64 u.y, .slice Ao2 S.out.length co2, .int .i64 (m : Int)]) := Blk.made w10 36 [.int .i64 u.k, .int .i64 u.n, .string (tx u.s), .int .i64 u.x, .int .i64 u.y, .slice Ao2 S.out.length co2, .int .i64 (m : Int)] rfl
          obtain ⟨w11, hw11⟩ : ∃ w11, w10.alloc (.cells #[.int .i64 u.k, .int .i64 u.n, .string (tx u.s), .int .i64 u.x, .int .i64 u.y, .slice Ao2 S.out.length co2, .int .i64 (m : Int)] 36) = w11 := ⟨_, rfl⟩
          rw [hw11] at HB11 HE11 HO11 HP11 HS11 HRA11 HT11 HRB11
          rw [hw11]
          obtain ⟨bRB, hbRB⟩ : ∃ b, w10.heap.size = b := ⟨_, rfl⟩
          rw [hbRB] at HRB11
          simp only [hbRB]
          clear HB10 HE10 HO10 HP10 HS10 HRA10 HT10 hltRA_ qRA0 qRA1 qRA2 qRA3 qRA4 qRA5 qRA6 hw11 hbRB
          refine (same_pairs S.out Ao Ao2 co co2 _ HS11.out HT11.out (by omega)).mono ?_
          rintro e w12 ⟨rfl, hb⟩
          have HB12 := Lib.hid (Below.next HB11.out hb)
          have HE12 := Lib.hid (HE11.out.next hb)
          have HO12 := Lib.hid (HO11.out.next hb)
          have HP12 := Lib.hid (HP11.out.next hb)
          have HS12 := Lib.hid (HS11.out.next hb)
          have HRA12 := Lib.hid (HRA11.out.next hb)
          have HT12 := Lib.hid (HT11.out.next hb)
          have HRB12 := Lib.hid (HRB11.out.next hb)
          clear HB11 HE11 HO11 HP11 HS11 HRA11 HT11 HRB11  hb
          go_wp2_with (fail)
          go_ret
          exact ⟨by simp, HB12.out⟩
      · skip
        have hltE_ := HE6.out.lt
        have qE0 := HE6.out.c 0 _ rfl
        have qE1 := HE6.out.c 1 _ rfl
        have qE2 := HE6.out.c 2 _ rfl
        have qE3 := HE6.out.c 3 _ rfl
        have qE4 := HE6.out.c 4 _ rfl
        have qE5 := HE6.out.c 5 _ rfl
        have qE6 := HE6.out.c 6 _ rfl
        have qE7 := HE6.out.c 7 _ rfl
        have qE8 := HE6.out.c 8 _ rfl
        have qE9 := HE6.out.c 9 _ rfl
        have qE10 := HE6.out.c 10 _ rfl
        have hltO_ := HO6.out.lt
        have qO0 := HO6.out.c 0 _ rfl
        have qO1 := HO6.out.c 1 _ rfl
        have qO2 := HO6.out.c 2 _ rfl
        have qO3 := HO6.out.c 3 _ rfl
        have qO4 := HO6.out.c 4 _ rfl
        have qO5 := HO6.out.c 5 _ rfl
        have qO6 := HO6.out.c 6 _ rfl
        have qO7 := HO6.out.c 7 _ rfl
        have qO8 := HO6.out.c 8 _ rfl
        have qO9 := HO6.out.c 9 _ rfl
        have qO10 := HO6.out.c 10 _ rfl
        have z0 := HO6.out.f 0 _ rfl
        have z1 := HO6.out.f 1 _ rfl
        have z2 := HO6.out.f 2 _ rfl
        have z3 := HO6.out.f 3 _ rfl
        have z4 := HO6.out.f 4 _ rfl
        have z5 := HO6.out.f 5 _ rfl
        have z6 := HO6.out.f 6 _ rfl
        have z7 := HO6.out.f 7 _ rfl
        have z8 := HO6.out.f 8 _ rfl
        have z9 := HO6.out.f 9 _ rfl
        have z10 := HO6.out.f 10 _ rfl
        go_wp2_with (fail)
        have hb9 := (below_puts (B := w.heap.size + 1) [.int .i64 a.k, .int .i64 a.n, .string (tx a.s), .int .i64 a.x, .int .i64 a.y] 6 HB6.out (by omega))
        have he9 := (blk_puts_other (C := w.heap.size + 1) (by omega) [.int .i64 a.k, .int .i64 a.n, .string (tx a.s), .int .i64 a.x, .int .i64 a.y] 6 HE6.out)
        have ho9 := (blk_puts [.int .i64 a.k, .int .i64 a.n, .string (tx a.s), .int .i64 a.x, .int .i64 a.y] 6 HO6.out (by simp))
        have hp9 := (nds_puts (C := w.heap.size + 1) [.int .i64 a.k, .int .i64 a.n, .string (tx a.s), .int .i64 a.x, .int .i64 a.y] 6 HP6.out HPF.out)
        change Blk _ _ [.string (tx k2), .int .i64 v2.k, .int .i64 v2.n, .string (tx v2.s), .int .i64 v2.x, .int .i64 v2.y, .int .i64 a.k, .int .i64 a.n, .string (tx a.s), .int .i64 a.x, .int .i64 a.y] at ho9
        change Calls _ _ _ ((putL w6 (w.heap.size + 1) 6 [.int .i64 a.k, .int .i64 a.n, .string (tx a.s), .int .i64 a.x, .int .i64 a.y]).alloc (.cells #[.bool false, .bool false, .bool true, .bool n3, .bool n4] 52)) _
        obtain ⟨x9, hx9⟩ : ∃ x9, (putL w6 (w.heap.size + 1) 6 [.int .i64 a.k, .int .i64 a.n, .string (tx a.s), .int .i64 a.x, .int .i64 a.y]) = x9 := ⟨_, rfl⟩
        rw [hx9] at hb9 he9 ho9 hp9 ⊢
        clear hx9
        have HB7 := Lib.hid (Below.next hb9 (box1 x9 (.cells #[.bool false, .bool false, .bool true, .bool n3, .bool n4] 52))); have HE7 := Lib.hid (he9.old (.cells #[.bool false, .bool false, .bool true, .bool n3, .bool n4] 52)); have HO7 := Lib.hid (ho9.old (.cells #[.bool false, .bool false, .bool true, .bool n3, .bool n4] 52)); have HP7 := Lib.hid (hp9.next (box1 x9 (.cells #[.bool false, .bool false, .bool true, .bool n3, .bool n4] 52)))
        obtain ⟨w7, hw7⟩ : ∃ w7, x9.alloc (.cells #[.bool false, .bool false, .bool true, .bool n3, .bool n4] 52) = w7 := ⟨_, rfl⟩
        rw [hw7] at HB7 HE7 HO7 HP7 ⊢
        clear HB6 HE6 HO6 HP6 hltE_ qE0 qE1 qE2 qE3 qE4 qE5 qE6 qE7 qE8 qE9 qE10 hltO_ qO0 qO1 qO2 qO3 qO4 qO5 qO6 qO7 qO8 qO9 qO10 z0 z1 z2 z3 z4 z5 z6 z7 z8 z9 z10 hb9 he9 ho9 hp9 hw7
        have htwo := names_two (HALI.out k2 v2 a (fun h => by cases h) (fun h => by cases h) (fun _ => rfl)) ((q : Int) % 3000)
        rcases htwo with htwo | ⟨x, hx1, hx2⟩ | ⟨u, S, S2, m, hx1, hx2, hSS⟩
        · skip
          have hltE_ := HE7.out.lt
          have qE0 := HE7.out.c 0 _ rfl
          have qE1 := HE7.out.c 1 _ rfl
          have qE2 := HE7.out.c 2 _ rfl
          have qE3 := HE7.out.c 3 _ rfl
          have qE4 := HE7.out.c 4 _ rfl
          have qE5 := HE7.out.c 5 _ rfl
          have qE6 := HE7.out.c 6 _ rfl
          have qE7 := HE7.out.c 7 _ rfl
          have qE8 := HE7.out.c 8 _ rfl
          have qE9 := HE7.out.c 9 _ rfl
          have qE10 := HE7.out.c 10 _ rfl
          refine (HRU.out k v a ((q : Int) % 3000) _ HB7.out Ap cp HP7.out (by omega)).mono ?_
          rintro e w8 ⟨hb, hq1⟩
          have HB8 := Lib.hid (Below.next HB7.out hb)
          have HE8 := Lib.hid (HE7.out.next hb)
          have HO8 := Lib.hid (HO7.out.next hb)
          have HP8 := Lib.hid (HP7.out.next hb)
          clear HB7 HE7 HO7 HP7 hltE_ qE0 qE1 qE2 qE3 qE4 qE5 qE6 qE7 qE8 qE9 qE10 hb
          obtain ⟨X1, hX1⟩ : ∃ X, rnX l k v a ((q : Int) % 3000) = X := ⟨_, rfl⟩
          rw [hX1] at hq1 htwo
          obtain ⟨X2, hX2⟩ : ∃ X, rnX l k2 v2 a ((q : Int) % 3000) = X := ⟨_, rfl⟩
          rw [hX2] at htwo
          clear hX1
          cases X1 with
          | er y1 =>
            obtain ⟨hy1, rfl⟩ := hq1
            have hy2 : (y1 == 0) = false := by simpa using hy1
            have hltO_ := HO8.out.lt
            have qO0 := HO8.out.c 0 _ rfl
            have qO1 := HO8.out.c 1 _ rfl
            have qO2 := HO8.out.c 2 _ rfl
            have qO3 := HO8.out.c 3 _ rfl
            have qO4 := HO8.out.c 4 _ rfl
            have qO5 := HO8.out.c 5 _ rfl
            have qO6 := HO8.out.c 6 _ rfl
            have qO7 := HO8.out.c 7 _ rfl
            have qO8 := HO8.out.c 8 _ rfl
            have qO9 := HO8.out.c 9 _ rfl
            have qO10 := HO8.out.c 10 _ rfl
            go_wp2_with (fail)
            have HB9 := Lib.hid (Below.next HB8.out (box1 w8 (.cells #[.int .i64 0, .int .i64 0, .string ⟨#[]⟩, .int .i64 0, .int .i64 0, .slice none 0 0, .int .i64 0] 36)))
            have HE9 := Lib.hid (HE8.out.next (box1 w8 (.cells #[.int .i64 0, .int .i64 0, .string ⟨#[]⟩, .int .i64 0, .int .i64 0, .slice none 0 0, .int .i64 0] 36)))
            have HO9 := Lib.hid (HO8.out.next (box1 w8 (.cells #[.int .i64 0, .int .i64 0, .string ⟨#[]⟩, .int .i64 0, .int .i64 0, .slice none 0 0, .int .i64 0] 36)))
            have HP9 := Lib.hid (HP8.out.next (box1 w8 (.cells #[.int .i64 0, .int .i64 0, .string ⟨#[]⟩, .int .i64 0, .int .i64 0, .slice none 0 0, .int .i64 0] 36)))
            have HRA9 : Hid (Blk (w8.alloc (.cells #[.int .i64 0, .int .i64 0, .string ⟨#[]⟩, .int .i64 0, .int .i64 0, .slice none 0 0, .int .i64 0] 36)) w8.heap.size [.int .i64 0, .int .i64 0, .string ⟨#[]⟩, .int .i64 0, .int .i64 0, .slice none 0 0, .int .i64 0]) := Blk.made w8 36 [.int .i64 0, .int .i64 0, .string ⟨#[]⟩, .int .i64 0, .int .i64 0, .slice none 0 0, .int .i64 0] rfl
            obtain ⟨w9, hw9⟩ : ∃ w9, w8.alloc (.cells #[.int .i64 0, .int .i64 0, .string ⟨#[]⟩, .int .i64 0, .int .i64 0, .slice none 0 0, .int .i64 0] 36) = w9 := ⟨_, rfl⟩
            rw [hw9] at HB9 HE9 HO9 HP9 HRA9
            rw [hw9]
            obtain ⟨bRA, hbRA⟩ : ∃ b, w8.heap.size = b := ⟨_, rfl⟩
            rw [hbRA] at HRA9
            simp only [hbRA]
            clear HB8 HE8 HO8 HP8 hltO_ qO0 qO1 qO2 qO3 qO4 qO5 qO6 qO7 qO8 qO9 qO10 hw9 hbRA
            have hltO_ := HO9.out.lt
            have qO0 := HO9.out.c 0 _ rfl
            have qO1 := HO9.out.c 1 _ rfl
            have qO2 := HO9.out.c 2 _ rfl
            have qO3 := HO9.out.c 3 _ rfl
            have qO4 := HO9.out.c 4 _ rfl
            have qO5 := HO9.out.c 5 _ rfl
            have qO6 := HO9.out.c 6 _ rfl
            have qO7 := HO9.out.c 7 _ rfl
            have qO8 := HO9.out.c 8 _ rfl
            have qO9 := HO9.out.c 9 _ rfl
            have qO10 := HO9.out.c 10 _ rfl
            refine (HRU.out k2 v2 a ((q : Int) % 3000) _ HB9.out Ap cp HP9.out (by omega)).mono ?_
            rintro e w10 ⟨hb, hq2⟩
            have HB10 := Lib.hid (Below.next HB9.out hb)
            have HE10 := Lib.hid (HE9.out.next hb)
            have HO10 := Lib.hid (HO9.out.next hb)
            have HP10 := Lib.hid (HP9.out.next hb)
            have HRA10 := Lib.hid (HRA9.out.next hb)
            clear HB9 HE9 HO9 HP9 HRA9 hltO_ qO0 qO1 qO2 qO3 qO4 qO5 qO6 qO7 qO8 qO9 qO10 hb
            rw [hX2] at hq2
            clear hX2
            cases X2 with
            | er y2 =>
              obtain ⟨_, rfl⟩ := hq2
              rcases htwo with h | h <;> injection h with h <;> subst h
              all_goals
                go_wp2_with (fail)
                all_goals
                  go_ret
                  exact ⟨by simp, Below.next HB10.out (box1 _ _)⟩
            | ok u2 S2 m2 =>
              obtain ⟨Ao2, co2, _, rfl⟩ := hq2
              obtain rfl : y1 = 1 := by
                rcases htwo with h | h
                · injection h
                · cases h
              go_wp2_with (fail)
              go_ret
              exact ⟨by simp, Below.next HB10.out (box1 _ _)⟩
          | ok u1 S1 m1 =>
            obtain ⟨Ao, co, _, rfl⟩ := hq1
            have hltO_ := HO8.out.lt
            have qO0 := HO8.out.c 0 _ rfl
            have qO1 := HO8.out.c 1 _ rfl
            have qO2 := HO8.out.c 2 _ rfl
            have qO3 := HO8.out.c 3 _ rfl
            have qO4 := HO8.out.c 4 _ rfl
            have qO5 := HO8.out.c 5 _ rfl
            have qO6 := HO8.out.c 6 _ rfl
            have qO7 := HO8.out.c 7 _ rfl
            have qO8 := HO8.out.c 8 _ rfl
            have qO9 := HO8.out.c 9 _ rfl
            have qO10 := HO8.out.c 10 _ rfl
            go_wp2_with (fail)
            have HB9 := Lib.hid (Below.next HB8.out (box1 w8 (.cells #[.int .i64 u1.k, .int .i64 u1.n, .string (tx u1.s), .int .i64 u1.x, .int .i64 u1.y, .slice Ao S1.out.length co, .int .i64 (m1 : Int)] 36)))
            have HE9 := Lib.hid (HE8.out.next (box1 w8 (.cells #[.int .i64 u1.k, .int .i64 u1.n, .string (tx u1.s), .int .i64 u1.x, .int .i64 u1.y, .slice Ao S1.out.length co, .int .i64 (m1 : Int)] 36)))
            have HO9 := Lib.hid (HO8.out.next (box1 w8 (.cells #[.int .i64 u1.k, .int .i64 u1.n, .string (tx u1.s), .int .i64 u1.x, .int .i64 u1.y, .slice Ao S1.out.length co, .int .i64 (m1 : Int)] 36)))
            have HP9 := Lib.hid (HP8.out.next (box1 w8 (.cells #[.int .i64 u1.k, .int .i64 u1.n, .string (tx u1.s), .int .i64 u1.x, .int .i64 u1.y, .slice Ao S1.out.length co, .int .i64 (m1 : Int)] 36)))
            have HRA9 : Hid (Blk (w8.alloc (.cells #[.int .i64 u1.k, .int .i64 u1.n, .string (tx u1.s), .int .i64 u1.x, .int .i64 u1.y, .slice Ao S1.out.length co, .int .i64 (m1 : Int)] 36)) w8.heap.size [.int .i64 u1.k, .int .i64 u1.n, .string (tx u1.s), .int .i64 u1.x, .int .i64 u1.y, .slice Ao S1.out.length co, .int .i64 (m1 : Int)]) := Blk.made w8 36 [.int .i64 u1.k, .int .i64 u1.n, .string (tx u1.s), .int .i64 u1.x, .int .i64 u1.y, .slice Ao S1.out.length co, .int .i64 (m1 : Int)] rfl
            obtain ⟨w9, hw9⟩ : ∃ w9, w8.alloc (.cells #[.int .i64 u1.k, .int .i64 u1.n, .string (tx u1.s), .int .i64 u1.x, .int .i64 u1.y, .slice Ao S1.out.length co, .int .i64 (m1 : Int)] 36) = w9 := ⟨_, rfl⟩
            rw [hw9] at HB9 HE9 HO9 HP9 HRA9
            rw [hw9]
            obtain ⟨bRA, hbRA⟩ : ∃ b, w8.heap.size = b := ⟨_, rfl⟩
            rw [hbRA] at HRA9
            simp only [hbRA]
            clear HB8 HE8 HO8 HP8 hltO_ qO0 qO1 qO2 qO3 qO4 qO5 qO6 qO7 qO8 qO9 qO10 hw9 hbRA
            have hltO_ := HO9.out.lt
            have qO0 := HO9.out.c 0 _ rfl
            have qO1 := HO9.out.c 1 _ rfl
            have qO2 := HO9.out.c 2 _ rfl
            have qO3 := HO9.out.c 3 _ rfl
            have qO4 := HO9.out.c 4 _ rfl
            have qO5 := HO9.out.c 5 _ rfl
            have qO6 := HO9.out.c 6 _ rfl
            have qO7 := HO9.out.c 7 _ rfl
            have qO8 := HO9.out.c 8 _ rfl
            have qO9 := HO9.out.c 9 _ rfl
            have qO10 := HO9.out.c 10 _ rfl
            refine (HRU.out k2 v2 a ((q : Int) % 3000) _ HB9.out Ap cp HP9.out (by omega)).mono ?_
            rintro e w10 ⟨hb, hq2⟩
            have HB10 := Lib.hid (Below.next HB9.out hb)
            have HE10 := Lib.hid (HE9.out.next hb)
            have HO10 := Lib.hid (HO9.out.next hb)
            have HP10 := Lib.hid (HP9.out.next hb)
            have HRA10 := Lib.hid (HRA9.out.next hb)
            clear HB9 HE9 HO9 HP9 HRA9 hltO_ qO0 qO1 qO2 qO3 qO4 qO5 qO6 qO7 qO8 qO9 qO10 hb
            rw [hX2] at hq2
            clear hX2
            cases X2 with
            | er y2 =>
              obtain ⟨_, rfl⟩ := hq2
              obtain rfl : y2 = 1 := by
                rcases htwo with h | h
                · cases h
                · injection h
              go_wp2_with (fail)
              go_ret
              exact ⟨by simp, Below.next HB10.out (box1 _ _)⟩
            | ok u2 S2 m2 =>
              obtain ⟨Ao2, co2, _, rfl⟩ := hq2
              rcases htwo with h | h <;> cases h
        · skip
          have hltE_ := HE7.out.lt
          have qE0 := HE7.out.c 0 _ rfl
          have qE1 := HE7.out.c 1 _ rfl
          have qE2 := HE7.out.c 2 _ rfl
          have qE3 := HE7.out.c 3 _ rfl
          have qE4 := HE7.out.c 4 _ rfl
          have qE5 := HE7.out.c 5 _ rfl
          have qE6 := HE7.out.c 6 _ rfl
          have qE7 := HE7.out.c 7 _ rfl
          have qE8 := HE7.out.c 8 _ rfl
          have qE9 := HE7.out.c 9 _ rfl
          have qE10 := HE7.out.c 10 _ rfl
          refine (HRU.out k v a ((q : Int) % 3000) _ HB7.out Ap cp HP7.out (by omega)).mono ?_
          rintro e w8 ⟨hb, hq1⟩
          have HB8 := Lib.hid (Below.next HB7.out hb)
          have HE8 := Lib.hid (HE7.out.next hb)
          have HO8 := Lib.hid (HO7.out.next hb)
          have HP8 := Lib.hid (HP7.out.next hb)
          clear HB7 HE7 HO7 HP7 hltE_ qE0 qE1 qE2 qE3 qE4 qE5 qE6 qE7 qE8 qE9 qE10 hb
          rw [hx1] at hq1
          obtain ⟨hy1, rfl⟩ := hq1
          have hltO_ := HO8.out.lt
          have qO0 := HO8.out.c 0 _ rfl
          have qO1 := HO8.out.c 1 _ rfl
          have qO2 := HO8.out.c 2 _ rfl
          have qO3 := HO8.out.c 3 _ rfl
          have qO4 := HO8.out.c 4 _ rfl
          have qO5 := HO8.out.c 5 _ rfl
          have qO6 := HO8.out.c 6 _ rfl
          have qO7 := HO8.out.c 7 _ rfl
          have qO8 := HO8.out.c 8 _ rfl
          have qO9 := HO8.out.c 9 _ rfl
          have qO10 := HO8.out.c 10 _ rfl
          go_wp2_with (fail)
          have HB9 := Lib.hid (Below.next HB8.out (box1 w8 (.cells #[.int .i64 0, .int .i64 0, .string ⟨#[]⟩, .int .i64 0, .int .i64 0, .slice none 0 0, .int .i64 0] 36)))
          have HE9 := Lib.hid (HE8.out.next (box1 w8 (.cells #[.int .i64 0, .int .i64 0, .string ⟨#[]⟩, .int .i64 0, .int .i64 0, .slice none 0 0, .int .i64 0] 36)))
          have HO9 := Lib.hid (HO8.out.next (box1 w8 (.cells #[.int .i64 0, .int .i64 0, .string ⟨#[]⟩, .int .i64 0, .int .i64 0, .slice none 0 0, .int .i64 0] 36)))
          have HP9 := Lib.hid (HP8.out.next (box1 w8 (.cells #[.int .i64 0, .int .i64 0, .string ⟨#[]⟩, .int .i64 0, .int .i64 0, .slice none 0 0, .int .i64 0] 36)))
          have HRA9 : Hid (Blk (w8.alloc (.cells #[.int .i64 0, .int .i64 0, .string ⟨#[]⟩, .int .i64 0, .int .i64 0, .slice none 0 0, .int .i64 0] 36)) w8.heap.size [.int .i64 0, .int .i64 0, .string ⟨#[]⟩, .int .i64 0, .int .i64 0, .slice none 0 0, .int .i64 0]) := Blk.made w8 36 [.int .i64 0, .int .i64 0, .string ⟨#[]⟩, .int .i64 0, .int .i64 0, .slice none 0 0, .int .i64 0] rfl
          obtain ⟨w9, hw9⟩ : ∃ w9, w8.alloc (.cells #[.int .i64 0, .int .i64 0, .string ⟨#[]⟩, .int .i64 0, .int .i64 0, .slice none 0 0, .int .i64 0] 36) = w9 := ⟨_, rfl⟩
          rw [hw9] at HB9 HE9 HO9 HP9 HRA9
          rw [hw9]
          obtain ⟨bRA, hbRA⟩ : ∃ b, w8.heap.size = b := ⟨_, rfl⟩
          rw [hbRA] at HRA9
          simp only [hbRA]
          clear HB8 HE8 HO8 HP8 hltO_ qO0 qO1 qO2 qO3 qO4 qO5 qO6 qO7 qO8 qO9 qO10 hw9 hbRA
          have hltO_ := HO9.out.lt
          have qO0 := HO9.out.c 0 _ rfl
          have qO1 := HO9.out.c 1 _ rfl
          have qO2 := HO9.out.c 2 _ rfl
          have qO3 := HO9.out.c 3 _ rfl
          have qO4 := HO9.out.c 4 _ rfl
          have qO5 := HO9.out.c 5 _ rfl
          have qO6 := HO9.out.c 6 _ rfl
          have qO7 := HO9.out.c 7 _ rfl
          have qO8 := HO9.out.c 8 _ rfl
          have qO9 := HO9.out.c 9 _ rfl
          have qO10 := HO9.out.c 10 _ rfl
          refine (HRU.out k2 v2 a ((q : Int) % 3000) _ HB9.out Ap cp HP9.out (by omega)).mono ?_
          rintro e w10 ⟨hb, hq2⟩
          have HB10 := Lib.hid (Below.next HB9.out hb)
          have HE10 := Lib.hid (HE9.out.next hb)
          have HO10 := Lib.hid (HO9.out.next hb)
          have HP10 := Lib.hid (HP9.out.next hb)
          have HRA10 := Lib.hid (HRA9.out.next hb)
          clear HB9 HE9 HO9 HP9 HRA9 hltO_ qO0 qO1 qO2 qO3 qO4 qO5 qO6 qO7 qO8 qO9 qO10 hb
          rw [hx2] at hq2
          obtain ⟨_, rfl⟩ := hq2
          have hltRA_ := HRA10.out.lt
          have qRA0 := HRA10.out.c 0 _ rfl
          have qRA1 := HRA10.out.c 1 _ rfl
          have qRA2 := HRA10.out.c 2 _ rfl
          have qRA3 := HRA10.out.c 3 _ rfl
          have qRA4 := HRA10.out.c 4 _ rfl
          have qRA5 := HRA10.out.c 5 _ rfl
          have qRA6 := HRA10.out.c 6 _ rfl
          have hEV : ∀ W, (binOp .eql 26 (.agg #[.int .i64 vz.k, .int .i64 vz.n, .string (tx vz.s), .int .i64 vz.x, .int .i64 vz.y]) (.agg #[.int .i64 vz.k, .int .i64 vz.n, .string (tx vz.s), .int .i64 vz.x, .int .i64 vz.y])).run Tryz.prog W = .ok (.bool true) W := fun W => eql_va vz vz W
          change ∀ W, (binOp .eql 26 (.agg #[.int .i64 0, .int .i64 0, .string ⟨#[]⟩, .int .i64 0, .int .i64 0]) (.agg #[.int .i64 0, .int .i64 0, .string ⟨#[]⟩, .int .i64 0, .int .i64 0])).run Tryz.prog W = .ok (.bool true) W at hEV
          by_cases hy3 : x = 1
          · subst hy3
            go_wp2_with (fail)
            go_ret
            exact ⟨by simp, Below.next HB10.out (box1 _ _)⟩
          · have hy4 : (x == 1) = false := by simpa using hy3
            go_wp2_with (fail)
            have HB11 := Lib.hid (Below.next HB10.out (box1 w10 (.cells #[.int .i64 0, .int .i64 0, .string ⟨#[]⟩, .int .i64 0, .int .i64 0, .slice none 0 0, .int .i64 0] 36)))
            have HE11 := Lib.hid (HE10.out.next (box1 w10 (.cells #[.int .i64 0, .int .i64 0, .string ⟨#[]⟩, .int .i64 0, .int .i64 0, .slice none 0 0, .int .i64 0] 36)))
            have HO11 := Lib.hid (HO10.out.next (box1 w10 (.cells #[.int .i64 0, .int .i64 0, .string ⟨#[]⟩, .int .i64 0, .int .i64 0, .slice none 0 0, .int .i64 0] 36)))
            have HP11 := Lib.hid (HP10.out.next (box1 w10 (.cells #[.int .i64 0, .int .i64 0, .string ⟨#[]⟩, .int .i64 0, .int .i64 0, .slice none 0 0, .int .i64 0] 36)))
            have HRA11 := Lib.hid (HRA10.out.next (box1 w10 (.cells #[.int .i64 0, .int .i64 0, .string ⟨#[]⟩, .int .i64 0, .int .i64 0, .slice none 0 0, .int .i64 0] 36)))
            have HRB11 : Hid (Blk (w10.alloc (.cells #[.int .i64 0, .int .i64 0, .string ⟨#[]⟩, .int .i64 0, .int .i64 0, .slice none 0 0, .int .i64 0] 36)) w10.heap.size [.int .i64 0, .int .i64 0, .string ⟨#[]⟩, .int .i64 0, .int .i64 0, .slice none 0 0, .int .i64 0]) := Blk.made w10 36 [.int .i64 0, .int .i64 0, .string ⟨#[]⟩, .int .i64 0, .int .i64 0, .slice none 0 0, .int .i64 0] rfl
            obtain ⟨w11, hw11⟩ : ∃ w11, w10.alloc (.cells #[.int .i64 0, .int .i64 0, .string ⟨#[]⟩, .int .i64 0, .int .i64 0, .slice none 0 0, .int .i64 0] 36) = w11 := ⟨_, rfl⟩
            rw [hw11] at HB11 HE11 HO11 HP11 HRA11 HRB11
            rw [hw11]
            obtain ⟨bRB, hbRB⟩ : ∃ b, w10.heap.size = b := ⟨_, rfl⟩
            rw [hbRB] at HRB11
            simp only [hbRB]
            clear HB10 HE10 HO10 HP10 HRA10 hltRA_ qRA0 qRA1 qRA2 qRA3 qRA4 qRA5 qRA6 hw11 hbRB
            refine (same_pairs [] none none 0 0 _ (fun h => absurd h (by decide)) (fun h => absurd h (by decide)) (by decide)).mono ?_
            rintro e w12 ⟨rfl, hb⟩
            have HB12 := Lib.hid (Below.next HB11.out hb)
            have HE12 := Lib.hid (HE11.out.next hb)
            have HO12 := Lib.hid (HO11.out.next hb)
            have HP12 := Lib.hid (HP11.out.next hb)
            have HRA12 := Lib.hid (HRA11.out.next hb)
            have HRB12 := Lib.hid (HRB11.out.next hb)
            clear HB11 HE11 HO11 HP11 HRA11 HRB11  hb
            go_wp2_with (fail)
            go_ret
            exact ⟨by simp, HB12.out⟩
        · skip
          have hSo := (rnX_left hx1).2.2.1
          have hltE_ := HE7.out.lt
          have qE0 := HE7.out.c 0 _ rfl
          have qE1 := HE7.out.c 1 _ rfl
          have qE2 := HE7.out.c 2 _ rfl
          have qE3 := HE7.out.c 3 _ rfl
          have qE4 := HE7.out.c 4 _ rfl
          have qE5 := HE7.out.c 5 _ rfl
          have qE6 := HE7.out.c 6 _ rfl
          have qE7 := HE7.out.c 7 _ rfl
          have qE8 := HE7.out.c 8 _ rfl
          have qE9 := HE7.out.c 9 _ rfl
          have qE10 := HE7.out.c 10 _ rfl
          refine (HRU.out k v a ((q : Int) % 3000) _ HB7.out Ap cp HP7.out (by omega)).mono ?_
          rintro e w8 ⟨hb, hq1⟩
          have HB8 := Lib.hid (Below.next HB7.out hb)
          have HE8 := Lib.hid (HE7.out.next hb)
          have HO8 := Lib.hid (HO7.out.next hb)
          have HP8 := Lib.hid (HP7.out.next hb)
          clear HB7 HE7 HO7 HP7 hltE_ qE0 qE1 qE2 qE3 qE4 qE5 qE6 qE7 qE8 qE9 qE10 hb
          rw [hx1] at hq1
          obtain ⟨Ao, co, ho, rfl⟩ := hq1
          have HS8 : Hid (Prs w8 Ao S.out) := Prs.of_own ho
          clear ho
          have hltO_ := HO8.out.lt
          have qO0 := HO8.out.c 0 _ rfl
          have qO1 := HO8.out.c 1 _ rfl
          have qO2 := HO8.out.c 2 _ rfl
          have qO3 := HO8.out.c 3 _ rfl
          have qO4 := HO8.out.c 4 _ rfl
          have qO5 := HO8.out.c 5 _ rfl
          have qO6 := HO8.out.c 6 _ rfl
          have qO7 := HO8.out.c 7 _ rfl
          have qO8 := HO8.out.c 8 _ rfl
          have qO9 := HO8.out.c 9 _ rfl
          have qO10 := HO8.out.c 10 _ rfl
          go_wp2_with (fail)
          have HB9 := Lib.hid (Below.next HB8.out (box1 w8 (.cells #[.int .i64 u.k, .int .i64 u.n, .string (tx u.s), .int .i64 u.x, .int .i64 u.y, .slice Ao S.out.length co, .int .i64 (m : Int)] 36)))
          have HE9 := Lib.hid (HE8.out.next (box1 w8 (.cells #[.int .i64 u.k, .int .i64 u.n, .string (tx u.s), .int .i64 u.x, .int .i64 u.y, .slice Ao S.out.length co, .int .i64 (m : Int)] 36)))
          have HO9 := Lib.hid (HO8.out.next (box1 w8 (.cells #[.int .i64 u.k, .int .i64 u.n, .string (tx u.s), .int .i64 u.x, .int .i64 u.y, .slice Ao S.out.length co, .int .i64 (m : Int)] 36)))
          have HP9 := Lib.hid (HP8.out.next (box1 w8 (.cells #[.int .i64 u.k, .int .i64 u.n, .string (tx u.s), .int .i64 u.x, .int .i64 u.y, .slice Ao S.out.length co, .int .i64 (m : Int)] 36)))
          have HS9 := Lib.hid (HS8.out.next (box1 w8 (.cells #[.int .i64 u.k, .int .i64 u.n, .string (tx u.s), .int .i64 u.x, .int .i64 u.y, .slice Ao S.out.length co, .int .i64 (m : Int)] 36)))
          have HRA9 : Hid (Blk (w8.alloc (.cells #[.int .i64 u.k, .int .i64 u.n, .string (tx u.s), .int .i64 u.x, .int .i64 u.y, .slice Ao S.out.length co, .int .i64 (m : Int)] 36)) w8.heap.size [.int .i64 u.k, .int .i64 u.n, .string (tx u.s), .int .i64 u.x, .int .i64 u.y, .slice Ao S.out.length co, .int .i64 (m : Int)]) := Blk.made w8 36 [.int .i64 u.k, .int .i64 u.n, .string (tx u.s), .int .i64 u.x, .int .i64 u.y, .slice Ao S.out.length co, .int .i64 (m : Int)] rfl
          obtain ⟨w9, hw9⟩ : ∃ w9, w8.alloc (.cells #[.int .i64 u.k, .int .i64 u.n, .string (tx u.s), .int .i64 u.x, .int .i64 u.y, .slice Ao S.out.length co, .int .i64 (m : Int)] 36) = w9 := ⟨_, rfl⟩
          rw [hw9] at HB9 HE9 HO9 HP9 HS9 HRA9
          rw [hw9]
          obtain ⟨bRA, hbRA⟩ : ∃ b, w8.heap.size = b := ⟨_, rfl⟩
          rw [hbRA] at HRA9
          simp only [hbRA]
          clear HB8 HE8 HO8 HP8 HS8 hltO_ qO0 qO1 qO2 qO3 qO4 qO5 qO6 qO7 qO8 qO9 qO10 hw9 hbRA
          have hltO_ := HO9.out.lt
          have qO0 := HO9.out.c 0 _ rfl
          have qO1 := HO9.out.c 1 _ rfl
          have qO2 := HO9.out.c 2 _ rfl
          have qO3 := HO9.out.c 3 _ rfl
          have qO4 := HO9.out.c 4 _ rfl
          have qO5 := HO9.out.c 5 _ rfl
          have qO6 := HO9.out.c 6 _ rfl
          have qO7 := HO9.out.c 7 _ rfl
          have qO8 := HO9.out.c 8 _ rfl
          have qO9 := HO9.out.c 9 _ rfl
          have qO10 := HO9.out.c 10 _ rfl
          refine (HRU.out k2 v2 a ((q : Int) % 3000) _ HB9.out Ap cp HP9.out (by omega)).mono ?_
          rintro e w10 ⟨hb, hq2⟩
          have HB10 := Lib.hid (Below.next HB9.out hb)
          have HE10 := Lib.hid (HE9.out.next hb)
          have HO10 := Lib.hid (HO9.out.next hb)
          have HP10 := Lib.hid (HP9.out.next hb)
          have HS10 := Lib.hid (HS9.out.next hb)
          have HRA10 := Lib.hid (HRA9.out.next hb)
          clear HB9 HE9 HO9 HP9 HS9 HRA9 hltO_ qO0 qO1 qO2 qO3 qO4 qO5 qO6 qO7 qO8 qO9 qO10 hb
          rw [hx2] at hq2
          obtain ⟨Ao2, co2, ho, rfl⟩ := hq2
          rw [hSS] at ho ⊢
          have HT10 : Hid (Prs w10 Ao2 S.out) := Prs.of_own ho
          clear ho
          have hltRA_ := HRA10.out.lt
          have qRA0 := HRA10.out.c 0 _ rfl
          have qRA1 := HRA10.out.c 1 _ rfl
          have qRA2 := HRA10.out.c 2 _ rfl
          have qRA3 := HRA10.out.c 3 _ rfl
          have qRA4 := HRA10.out.c 4 _ rfl
          have qRA5 := HRA10.out.c 5 _ rfl
          have qRA6 := HRA10.out.c 6 _ rfl
          have hEV : ∀ W, (binOp .eql 26 (.agg #[.int .i64 u.k, .int .i64 u.n, .string (tx u.s), .int .i64 u.x, .int .i64 u.y]) (.agg #[.int .i64 u.k, .int .i64 u.n, .string (tx u.s), .int .i64 u.x, .int .i64 u.y])).run Tryz.prog W = .ok (.bool true) W := fun W => by
            have h := eql_va u u W
            rwa [show decide (u = u) = true from decide_eq_true rfl] at h
          go_wp2_with (fail)
          have HB11 := Lib.hid (Below.next HB10.out (box1 w10 (.cells #[.int .i64 u.k, .int .i64 u.n, .string (tx u.s), .int .i64 u.x, .int .i64 u.y, .slice Ao2 S.out.length co2, .int .i64 (m : Int)] 36)))
          have HE11 := Lib.hid (HE10.out.next (box1 w10 (.cells #[.int .i64 u.k, .int .i64 u.n, .string (tx u.s), .int .i64 u.x, .int .i64 u.y, .slice Ao2 S.out.length co2, .int .i64 (m : Int)] 36)))
          have HO11 := Lib.hid (HO10.out.next (box1 w10 (.cells #[.int .i64 u.k, .int .i64 u.n, .string (tx u.s), .int .i64 u.x, .int .i64 u.y, .slice Ao2 S.out.length co2, .int .i64 (m : Int)] 36)))
          have HP11 := Lib.hid (HP10.out.next (box1 w10 (.cells #[.int .i64 u.k, .int .i64 u.n, .string (tx u.s), .int .i64 u.x, .int .i64 u.y, .slice Ao2 S.out.length co2, .int .i64 (m : Int)] 36)))
          have HS11 := Lib.hid (HS10.out.next (box1 w10 (.cells #[.int .i64 u.k, .int .i64 u.n, .string (tx u.s), .int .i64 u.x, .int .i64 u.y, .slice Ao2 S.out.length co2, .int .i64 (m : Int)] 36)))
          have HRA11 := Lib.hid (HRA10.out.next (box1 w10 (.cells #[.int .i64 u.k, .int .i64 u.n, .string (tx u.s), .int .i64 u.x, .int .i64 u.y, .slice Ao2 S.out.length co2, .int .i64 (m : Int)] 36)))
          have HT11 := Lib.hid (HT10.out.next (box1 w10 (.cells #[.int .i64 u.k, .int .i64 u.n, .string (tx u.s), .int .i64 u.x, .int .i64 u.y, .slice Ao2 S.out.length co2, .int .i64 (m : Int)] 36)))
          have HRB11 : Hid (Blk (w10.alloc (.cells #[.int .i64 u.k, .int .i64 u.n, .string (tx u.s), .int .i64 u.x, .int .i64 u.y, .slice Ao2 S.out.length co2, .int .i64 (m : Int)] 36)) w10.heap.size [.int .i64 u.k, .int .i64 u.n, .string (tx u.s), .int .i64 u.x, .int .i64 u.y, .slice Ao2 S.out.length co2, .int .i64 (m : Int)]) := Blk.made w10 36 [.int .i64 u.k, .int .i64 u.n, .string (tx u.s), .int .i64 u.x, .int .i64 u.y, .slice Ao2 S.out.length co2, .int .i64 (m : Int)] rfl
          obtain ⟨w11, hw11⟩ : ∃ w11, w10.alloc (.cells #[.int .i64 u.k, .int .i64 u.n, .string (tx u.s), .int .i64 u.x, .int .i64 u.y, .slice Ao2 S.out.length co2, .int .i64 (m : Int)] 36) = w11 := ⟨_, rfl⟩
          rw [hw11] at HB11 HE11 HO11 HP11 HS11 HRA11 HT11 HRB11
          rw [hw11]
          obtain ⟨bRB, hbRB⟩ : ∃ b, w10.heap.size = b := ⟨_, rfl⟩
          rw [hbRB] at HRB11
          simp only [hbRB]
          clear HB10 HE10 HO10 HP10 HS10 HRA10 HT10 hltRA_ qRA0 qRA1 qRA2 qRA3 qRA4 qRA5 qRA6 hw11 hbRB
          refine (same_pairs S.out Ao Ao2 co co2 _ HS11.out HT11.out (by omega)).mono ?_
          rintro e w12 ⟨rfl, hb⟩
          have HB12 := Lib.hid (Below.next HB11.out hb)
          have HE12 := Lib.hid (HE11.out.next hb)
          have HO12 := Lib.hid (HO11.out.next hb)
          have HP12 := Lib.hid (HP11.out.next hb)
          have HS12 := Lib.hid (HS11.out.next hb)
          have HRA12 := Lib.hid (HRA11.out.next hb)
          have HT12 := Lib.hid (HT11.out.next hb)
          have HRB12 := Lib.hid (HRB11.out.next hb)
          clear HB11 HE11 HO11 HP11 HS11 HRA11 HT11 HRB11  hb
          go_wp2_with (fail)
          go_ret
          exact ⟨by simp, HB12.out⟩
    · skip
      cases n2
      · skip
        have hltE_ := HE6.out.lt
        have qE0 := HE6.out.c 0 _ rfl
        have qE1 := HE6.out.c 1 _ rfl
        have qE2 := HE6.out.c 2 _ rfl
        have qE3 := HE6.out.c 3 _ rfl
        have qE4 := HE6.out.c 4 _ rfl
        have qE5 := HE6.out.c 5 _ rfl
        have qE6 := HE6.out.c 6 _ rfl
        have qE7 := HE6.out.c 7 _ rfl
        have qE8 := HE6.out.c 8 _ rfl
        have qE9 := HE6.out.c 9 _ rfl
        have qE10 := HE6.out.c 10 _ rfl
        have hltO_ := HO6.out.lt
        have qO0 := HO6.out.c 0 _ rfl
        have qO1 := HO6.out.c 1 _ rfl
        have qO2 := HO6.out.c 2 _ rfl
        have qO3 := HO6.out.c 3 _ rfl
        have qO4 := HO6.out.c 4 _ rfl
        have qO5 := HO6.out.c 5 _ rfl
        have qO6 := HO6.out.c 6 _ rfl
        have qO7 := HO6.out.c 7 _ rfl
        have qO8 := HO6.out.c 8 _ rfl
        have qO9 := HO6.out.c 9 _ rfl
        have qO10 := HO6.out.c 10 _ rfl
        have z0 := HO6.out.f 0 _ rfl
        have z1 := HO6.out.f 1 _ rfl
        have z2 := HO6.out.f 2 _ rfl
        have z3 := HO6.out.f 3 _ rfl
        have z4 := HO6.out.f 4 _ rfl
        have z5 := HO6.out.f 5 _ rfl
        have z6 := HO6.out.f 6 _ rfl
        have z7 := HO6.out.f 7 _ rfl
        have z8 := HO6.out.f 8 _ rfl
        have z9 := HO6.out.f 9 _ rfl
        have z10 := HO6.out.f 10 _ rfl
        go_wp2_with (fail)
        have hb9 := (below_puts (B := w.heap.size + 1) [.int .i64 v.k, .int .i64 v.n, .string (tx v.s), .int .i64 v.x, .int .i64 v.y] 1 HB6.out (by omega))
        have he9 := (blk_puts_other (C := w.heap.size + 1) (by omega) [.int .i64 v.k, .int .i64 v.n, .string (tx v.s), .int .i64 v.x, .int .i64 v.y] 1 HE6.out)
        have ho9 := (blk_puts [.int .i64 v.k, .int .i64 v.n, .string (tx v.s), .int .i64 v.x, .int .i64 v.y] 1 HO6.out (by simp))
        have hp9 := (nds_puts (C := w.heap.size + 1) [.int .i64 v.k, .int .i64 v.n, .string (tx v.s), .int .i64 v.x, .int .i64 v.y] 1 HP6.out HPF.out)
        change Blk _ _ [.string (tx k2), .int .i64 v.k, .int .i64 v.n, .string (tx v.s), .int .i64 v.x, .int .i64 v.y, .int .i64 a2.k, .int .i64 a2.n, .string (tx a2.s), .int .i64 a2.x, .int .i64 a2.y] at ho9
        change Calls _ _ _ ((putL w6 (w.heap.size + 1) 1 [.int .i64 v.k, .int .i64 v.n, .string (tx v.s), .int .i64 v.x, .int .i64 v.y]).alloc (.cells #[.bool false, .bool true, .bool false, .bool n3, .bool n4] 52)) _
        obtain ⟨x9, hx9⟩ : ∃ x9, (putL w6 (w.heap.size + 1) 1 [.int .i64 v.k, .int .i64 v.n, .string (tx v.s), .int .i64 v.x, .int .i64 v.y]) = x9 := ⟨_, rfl⟩
        rw [hx9] at hb9 he9 ho9 hp9 ⊢
        clear hx9
        have HB7 := Lib.hid (Below.next hb9 (box1 x9 (.cells #[.bool false, .bool true, .bool false, .bool n3, .bool n4] 52))); have HE7 := Lib.hid (he9.old (.cells #[.bool false, .bool true, .bool false, .bool n3, .bool n4] 52)); have HO7 := Lib.hid (ho9.old (.cells #[.bool false, .bool true, .bool false, .bool n3, .bool n4] 52)); have HP7 := Lib.hid (hp9.next (box1 x9 (.cells #[.bool false, .bool true, .bool false, .bool n3, .bool n4] 52)))
        obtain ⟨w7, hw7⟩ : ∃ w7, x9.alloc (.cells #[.bool false, .bool true, .bool false, .bool n3, .bool n4] 52) = w7 := ⟨_, rfl⟩
        rw [hw7] at HB7 HE7 HO7 HP7 ⊢
        clear HB6 HE6 HO6 HP6 hltE_ qE0 qE1 qE2 qE3 qE4 qE5 qE6 qE7 qE8 qE9 qE10 hltO_ qO0 qO1 qO2 qO3 qO4 qO5 qO6 qO7 qO8 qO9 qO10 z0 z1 z2 z3 z4 z5 z6 z7 z8 z9 z10 hb9 he9 ho9 hp9 hw7
        have htwo := names_two (HALI.out k2 v a2 (fun h => by cases h) (fun _ => rfl) (fun h => by cases h)) ((q : Int) % 3000)
        rcases htwo with htwo | ⟨x, hx1, hx2⟩ | ⟨u, S, S2, m, hx1, hx2, hSS⟩
        · skip
          have hltE_ := HE7.out.lt
          have qE0 := HE7.out.c 0 _ rfl
          have qE1 := HE7.out.c 1 _ rfl
          have qE2 := HE7.out.c 2 _ rfl
          have qE3 := HE7.out.c 3 _ rfl
          have qE4 := HE7.out.c 4 _ rfl
          have qE5 := HE7.out.c 5 _ rfl
          have qE6 := HE7.out.c 6 _ rfl
          have qE7 := HE7.out.c 7 _ rfl
          have qE8 := HE7.out.c 8 _ rfl
          have qE9 := HE7.out.c 9 _ rfl
          have qE10 := HE7.out.c 10 _ rfl
          refine (HRU.out k v a ((q : Int) % 3000) _ HB7.out Ap cp HP7.out (by omega)).mono ?_
          rintro e w8 ⟨hb, hq1⟩
          have HB8 := Lib.hid (Below.next HB7.out hb)
          have HE8 := Lib.hid (HE7.out.next hb)
          have HO8 := Lib.hid (HO7.out.next hb)
          have HP8 := Lib.hid (HP7.out.next hb)
          clear HB7 HE7 HO7 HP7 hltE_ qE0 qE1 qE2 qE3 qE4 qE5 qE6 qE7 qE8 qE9 qE10 hb
          obtain ⟨X1, hX1⟩ : ∃ X, rnX l k v a ((q : Int) % 3000) = X := ⟨_, rfl⟩
          rw [hX1] at hq1 htwo
          obtain ⟨X2, hX2⟩ : ∃ X, rnX l k2 v a2 ((q : Int) % 3000) = X := ⟨_, rfl⟩
          rw [hX2] at htwo
          clear hX1
          cases X1 with
          | er y1 =>
            obtain ⟨hy1, rfl⟩ := hq1
            have hy2 : (y1 == 0) = false := by simpa using hy1
            have hltO_ := HO8.out.lt
            have qO0 := HO8.out.c 0 _ rfl
            have qO1 := HO8.out.c 1 _ rfl
            have qO2 := HO8.out.c 2 _ rfl
            have qO3 := HO8.out.c 3 _ rfl
            have qO4 := HO8.out.c 4 _ rfl
            have qO5 := HO8.out.c 5 _ rfl
            have qO6 := HO8.out.c 6 _ rfl
            have qO7 := HO8.out.c 7 _ rfl
            have qO8 := HO8.out.c 8 _ rfl
            have qO9 := HO8.out.c 9 _ rfl
            have qO10 := HO8.out.c 10 _ rfl
            go_wp2_with (fail)
            have HB9 := Lib.hid (Below.next HB8.out (box1 w8 (.cells #[.int .i64 0, .int .i64 0, .string ⟨#[]⟩, .int .i64 0, .int .i64 0, .slice none 0 0, .int .i64 0] 36)))
            have HE9 := Lib.hid (HE8.out.next (box1 w8 (.cells #[.int .i64 0, .int .i64 0, .string ⟨#[]⟩, .int .i64 0, .int .i64 0, .slice none 0 0, .int .i64 0] 36)))
            have HO9 := Lib.hid (HO8.out.next (box1 w8 (.cells #[.int .i64 0, .int .i64 0, .string ⟨#[]⟩, .int .i64 0, .int .i64 0, .slice none 0 0, .int .i64 0] 36)))
            have HP9 := Lib.hid (HP8.out.next (box1 w8 (.cells #[.int .i64 0, .int .i64 0, .string ⟨#[]⟩, .int .i64 0, .int .i64 0, .slice none 0 0, .int .i64 0] 36)))
            have HRA9 : Hid (Blk (w8.alloc (.cells #[.int .i64 0, .int .i64 0, .string ⟨#[]⟩, .int .i64 0, .int .i64 0, .slice none 0 0, .int .i64 0] 36)) w8.heap.size [.int .i64 0, .int .i64 0, .string ⟨#[]⟩, .int .i64 0, .int .i64 0, .slice none 0 0, .int .i64 0]) := Blk.made w8 36 [.int .i64 0, .int .i64 0, .string ⟨#[]⟩, .int .i64 0, .int .i64 0, .slice none 0 0, .int .i64 0] rfl
            obtain ⟨w9, hw9⟩ : ∃ w9, w8.alloc (.cells #[.int .i64 0, .int .i64 0, .string ⟨#[]⟩, .int .i64 0, .int .i64 0, .slice none 0 0, .int .i64 0] 36) = w9 := ⟨_, rfl⟩
            rw [hw9] at HB9 HE9 HO9 HP9 HRA9
            rw [hw9]
            obtain ⟨bRA, hbRA⟩ : ∃ b, w8.heap.size = b := ⟨_, rfl⟩
            rw [hbRA] at HRA9
            simp only [hbRA]
            clear HB8 HE8 HO8 HP8 hltO_ qO0 qO1 qO2 qO3 qO4 qO5 qO6 qO7 qO8 qO9 qO10 hw9 hbRA
            have hltO_ := HO9.out.lt
            have qO0 := HO9.out.c 0 _ rfl
            have qO1 := HO9.out.c 1 _ rfl
            have qO2 := HO9.out.c 2 _ rfl
            have qO3 := HO9.out.c 3 _ rfl
            have qO4 := HO9.out.c 4 _ rfl
            have qO5 := HO9.out.c 5 _ rfl
            have qO6 := HO9.out.c 6 _ rfl
            have qO7 := HO9.out.c 7 _ rfl
            have qO8 := HO9.out.c 8 _ rfl
            have qO9 := HO9.out.c 9 _ rfl
            have qO10 := HO9.out.c 10 _ rfl
            refine (HRU.out k2 v a2 ((q : Int) % 3000) _ HB9.out Ap cp HP9.out (by omega)).mono ?_
            rintro e w10 ⟨hb, hq2⟩
            have HB10 := Lib.hid (Below.next HB9.out hb)
            have HE10 := Lib.hid (HE9.out.next hb)
            have HO10 := Lib.hid (HO9.out.next hb)
            have HP10 := Lib.hid (HP9.out.next hb)
            have HRA10 := Lib.hid (HRA9.out.next hb)
            clear HB9 HE9 HO9 HP9 HRA9 hltO_ qO0 qO1 qO2 qO3 qO4 qO5 qO6 qO7 qO8 qO9 qO10 hb
            rw [hX2] at hq2
            clear hX2
            cases X2 with
            | er y2 =>
              obtain ⟨_, rfl⟩ := hq2
              rcases htwo with h | h <;> injection h with h <;> subst h
              all_goals
                go_wp2_with (fail)
                all_goals
                  go_ret
                  exact ⟨by simp, Below.next HB10.out (box1 _ _)⟩
            | ok u2 S2 m2 =>
              obtain ⟨Ao2, co2, _, rfl⟩ := hq2
              obtain rfl : y1 = 1 := by
                rcases htwo with h | h
                · injection h
                · cases h
              go_wp2_with (fail)
              go_ret
              exact ⟨by simp, Below.next HB10.out (box1 _ _)⟩
          | ok u1 S1 m1 =>
            obtain ⟨Ao, co, _, rfl⟩ := hq1
            have hltO_ := HO8.out.lt
            have qO0 := HO8.out.c 0 _ rfl
            have qO1 := HO8.out.c 1 _ rfl
            have qO2 := HO8.out.c 2 _ rfl
            have qO3 := HO8.out.c 3 _ rfl
            have qO4 := HO8.out.c 4 _ rfl
            have qO5 := HO8.out.c 5 _ rfl
            have qO6 := HO8.out.c 6 _ rfl
            have qO7 := HO8.out.c 7 _ rfl
            have qO8 := HO8.out.c 8 _ rfl
            have qO9 := HO8.out.c 9 _ rfl
            have qO10 := HO8.out.c 10 _ rfl
            go_wp2_with (fail)
            have HB9 := Lib.hid (Below.next HB8.out (box1 w8 (.cells #[.int .i64 u1.k, .int .i64 u1.n, .string (tx u1.s), .int .i64 u1.x, .int .i64 u1.y, .slice Ao S1.out.length co, .int .i64 (m1 : Int)] 36)))
            have HE9 := Lib.hid (HE8.out.next (box1 w8 (.cells #[.int .i64 u1.k, .int .i64 u1.n, .string (tx u1.s), .int .i64 u1.x, .int .i64 u1.y, .slice Ao S1.out.length co, .int .i64 (m1 : Int)] 36)))
            have HO9 := Lib.hid (HO8.out.next (box1 w8 (.cells #[.int .i64 u1.k, .int .i64 u1.n, .string (tx u1.s), .int .i64 u1.x, .int .i64 u1.y, .slice Ao S1.out.length co, .int .i64 (m1 : Int)] 36)))
            have HP9 := Lib.hid (HP8.out.next (box1 w8 (.cells #[.int .i64 u1.k, .int .i64 u1.n, .string (tx u1.s), .int .i64 u1.x, .int .i64 u1.y, .slice Ao S1.out.length co, .int .i64 (m1 : Int)] 36)))
            have HRA9 : Hid (Blk (w8.alloc (.cells #[.int .i64 u1.k, .int .i64 u1.n, .string (tx u1.s), .int .i64 u1.x, .int .i64 u1.y, .slice Ao S1.out.length co, .int .i64 (m1 : Int)] 36)) w8.heap.size [.int .i64 u1.k, .int .i64 u1.n, .string (tx u1.s), .int .i64 u1.x, .int .i64 u1.y, .slice Ao S1.out.length co, .int .i64 (m1 : Int)]) := Blk.made w8 36 [.int .i64 u1.k, .int .i64 u1.n, .string (tx u1.s), .int .i64 u1.x, .int .i64 u1.y, .slice Ao S1.out.length co, .int .i64 (m1 : Int)] rfl
            obtain ⟨w9, hw9⟩ : ∃ w9, w8.alloc (.cells #[.int .i64 u1.k, .int .i64 u1.n, .string (tx u1.s), .int .i64 u1.x, .int .i64 u1.y, .slice Ao S1.out.length co, .int .i64 (m1 : Int)] 36) = w9 := ⟨_, rfl⟩
            rw [hw9] at HB9 HE9 HO9 HP9 HRA9
            rw [hw9]
            obtain ⟨bRA, hbRA⟩ : ∃ b, w8.heap.size = b := ⟨_, rfl⟩
            rw [hbRA] at HRA9
            simp only [hbRA]
            clear HB8 HE8 HO8 HP8 hltO_ qO0 qO1 qO2 qO3 qO4 qO5 qO6 qO7 qO8 qO9 qO10 hw9 hbRA
            have hltO_ := HO9.out.lt
            have qO0 := HO9.out.c 0 _ rfl
            have qO1 := HO9.out.c 1 _ rfl
            have qO2 := HO9.out.c 2 _ rfl
            have qO3 := HO9.out.c 3 _ rfl
            have qO4 := HO9.out.c 4 _ rfl
            have qO5 := HO9.out.c 5 _ rfl
            have qO6 := HO9.out.c 6 _ rfl
            have qO7 := HO9.out.c 7 _ rfl
            have qO8 := HO9.out.c 8 _ rfl
            have qO9 := HO9.out.c 9 _ rfl
            have qO10 := HO9.out.c 10 _ rfl
            refine (HRU.out k2 v a2 ((q : Int) % 3000) _ HB9.out Ap cp HP9.out (by omega)).mono ?_
            rintro e w10 ⟨hb, hq2⟩
            have HB10 := Lib.hid (Below.next HB9.out hb)
            have HE10 := Lib.hid (HE9.out.next hb)
            have HO10 := Lib.hid (HO9.out.next hb)
            have HP10 := Lib.hid (HP9.out.next hb)
            have HRA10 := Lib.hid (HRA9.out.next hb)
            clear HB9 HE9 HO9 HP9 HRA9 hltO_ qO0 qO1 qO2 qO3 qO4 qO5 qO6 qO7 qO8 qO9 qO10 hb
            rw [hX2] at hq2
            clear hX2
            cases X2 with
            | er y2 =>
              obtain ⟨_, rfl⟩ := hq2
              obtain rfl : y2 = 1 := by
                rcases htwo with h | h
                · cases h
                · injection h
              go_wp2_with (fail)
              go_ret
              exact ⟨by simp, Below.next HB10.out (box1 _ _)⟩
            | ok u2 S2 m2 =>
              obtain ⟨Ao2, co2, _, rfl⟩ := hq2
              rcases htwo with h | h <;> cases h
        · skip
          have hltE_ := HE7.out.lt
          have qE0 := HE7.out.c 0 _ rfl
          have qE1 := HE7.out.c 1 _ rfl
          have qE2 := HE7.out.c 2 _ rfl
          have qE3 := HE7.out.c 3 _ rfl
          have qE4 := HE7.out.c 4 _ rfl
          have qE5 := HE7.out.c 5 _ rfl
          have qE6 := HE7.out.c 6 _ rfl
          have qE7 := HE7.out.c 7 _ rfl
          have qE8 := HE7.out.c 8 _ rfl
          have qE9 := HE7.out.c 9 _ rfl
          have qE10 := HE7.out.c 10 _ rfl
          refine (HRU.out k v a ((q : Int) % 3000) _ HB7.out Ap cp HP7.out (by omega)).mono ?_
          rintro e w8 ⟨hb, hq1⟩
          have HB8 := Lib.hid (Below.next HB7.out hb)
          have HE8 := Lib.hid (HE7.out.next hb)
          have HO8 := Lib.hid (HO7.out.next hb)
          have HP8 := Lib.hid (HP7.out.next hb)
          clear HB7 HE7 HO7 HP7 hltE_ qE0 qE1 qE2 qE3 qE4 qE5 qE6 qE7 qE8 qE9 qE10 hb
          rw [hx1] at hq1
          obtain ⟨hy1, rfl⟩ := hq1
          have hltO_ := HO8.out.lt
          have qO0 := HO8.out.c 0 _ rfl
          have qO1 := HO8.out.c 1 _ rfl
          have qO2 := HO8.out.c 2 _ rfl
          have qO3 := HO8.out.c 3 _ rfl
          have qO4 := HO8.out.c 4 _ rfl
          have qO5 := HO8.out.c 5 _ rfl
          have qO6 := HO8.out.c 6 _ rfl
          have qO7 := HO8.out.c 7 _ rfl
          have qO8 := HO8.out.c 8 _ rfl
          have qO9 := HO8.out.c 9 _ rfl
          have qO10 := HO8.out.c 10 _ rfl
          go_wp2_with (fail)
          have HB9 := Lib.hid (Below.next HB8.out (box1 w8 (.cells #[.int .i64 0, .int .i64 0, .string ⟨#[]⟩, .int .i64 0, .int .i64 0, .slice none 0 0, .int .i64 0] 36)))
          have HE9 := Lib.hid (HE8.out.next (box1 w8 (.cells #[.int .i64 0, .int .i64 0, .string ⟨#[]⟩, .int .i64 0, .int .i64 0, .slice none 0 0, .int .i64 0] 36)))
          have HO9 := Lib.hid (HO8.out.next (box1 w8 (.cells #[.int .i64 0, .int .i64 0, .string ⟨#[]⟩, .int .i64 0, .int .i64 0, .slice none 0 0, .int .i64 0] 36)))
          have HP9 := Lib.hid (HP8.out.next (box1 w8 (.cells #[.int .i64 0, .int .i64 0, .string ⟨#[]⟩, .int .i64 0, .int .i64 0, .slice none 0 0, .int .i64 0] 36)))
          have HRA9 : Hid (Blk (w8.alloc (.cells #[.int .i64 0, .int .i64 0, .string ⟨#[]⟩, .int .i64 0, .int .i64 0, .slice none 0 0, .int .i64 0] 36)) w8.heap.size [.int .i64 0, .int .i64 0, .string ⟨#[]⟩, .int .i64 0, .int .i64 0, .slice none 0 0, .int .i64 0]) := Blk.made w8 36 [.int .i64 0, .int .i64 0, .string ⟨#[]⟩, .int .i64 0, .int .i64 0, .slice none 0 0, .int .i64 0] rfl
          obtain ⟨w9, hw9⟩ : ∃ w9, w8.alloc (.cells #[.int .i64 0, .int .i64 0, .string ⟨#[]⟩, .int .i64 0, .int .i64 0, .slice none 0 0, .int .i64 0] 36) = w9 := ⟨_, rfl⟩
          rw [hw9] at HB9 HE9 HO9 HP9 HRA9
          rw [hw9]
          obtain ⟨bRA, hbRA⟩ : ∃ b, w8.heap.size = b := ⟨_, rfl⟩
          rw [hbRA] at HRA9
          simp only [hbRA]
          clear HB8 HE8 HO8 HP8 hltO_ qO0 qO1 qO2 qO3 qO4 qO5 qO6 qO7 qO8 qO9 qO10 hw9 hbRA
          have hltO_ := HO9.out.lt
          have qO0 := HO9.out.c 0 _ rfl
          have qO1 := HO9.out.c 1 _ rfl
          have qO2 := HO9.out.c 2 _ rfl
          have qO3 := HO9.out.c 3 _ rfl
          have qO4 := HO9.out.c 4 _ rfl
          have qO5 := HO9.out.c 5 _ rfl
          have qO6 := HO9.out.c 6 _ rfl
          have qO7 := HO9.out.c 7 _ rfl
          have qO8 := HO9.out.c 8 _ rfl
          have qO9 := HO9.out.c 9 _ rfl
          have qO10 := HO9.out.c 10 _ rfl
          refine (HRU.out k2 v a2 ((q : Int) % 3000) _ HB9.out Ap cp HP9.out (by omega)).mono ?_
          rintro e w10 ⟨hb, hq2⟩
          have HB10 := Lib.hid (Below.next HB9.out hb)
          have HE10 := Lib.hid (HE9.out.next hb)
          have HO10 := Lib.hid (HO9.out.next hb)
          have HP10 := Lib.hid (HP9.out.next hb)
          have HRA10 := Lib.hid (HRA9.out.next hb)
          clear HB9 HE9 HO9 HP9 HRA9 hltO_ qO0 qO1 qO2 qO3 qO4 qO5 qO6 qO7 qO8 qO9 qO10 hb
          rw [hx2] at hq2
          obtain ⟨_, rfl⟩ := hq2
          have hltRA_ := HRA10.out.lt
          have qRA0 := HRA10.out.c 0 _ rfl
          have qRA1 := HRA10.out.c 1 _ rfl
          have qRA2 := HRA10.out.c 2 _ rfl
          have qRA3 := HRA10.out.c 3 _ rfl
          have qRA4 := HRA10.out.c 4 _ rfl
          have qRA5 := HRA10.out.c 5 _ rfl
          have qRA6 := HRA10.out.c 6 _ rfl
          have hEV : ∀ W, (binOp .eql 26 (.agg #[.int .i64 vz.k, .int .i64 vz.n, .string (tx vz.s), .int .i64 vz.x, .int .i64 vz.y]) (.agg #[.int .i64 vz.k, .int .i64 vz.n, .string (tx vz.s), .int .i64 vz.x, .int .i64 vz.y])).run Tryz.prog W = .ok (.bool true) W := fun W => eql_va vz vz W
          change ∀ W, (binOp .eql 26 (.agg #[.int .i64 0, .int .i64 0, .string ⟨#[]⟩, .int .i64 0, .int .i64 0]) (.agg #[.int .i64 0, .int .i64 0, .string ⟨#[]⟩, .int .i64 0, .int .i64 0])).run Tryz.prog W = .ok (.bool true) W at hEV
          by_cases hy3 : x = 1
          · subst hy3
            go_wp2_with (fail)
            go_ret
            exact ⟨by simp, Below.next HB10.out (box1 _ _)⟩
          · have hy4 : (x == 1) = false := by simpa using hy3
            go_wp2_with (fail)
            have HB11 := Lib.hid (Below.next HB10.out (box1 w10 (.cells #[.int .i64 0, .int .i64 0, .string ⟨#[]⟩, .int .i64 0, .int .i64 0, .slice none 0 0, .int .i64 0] 36)))
            have HE11 := Lib.hid (HE10.out.next (box1 w10 (.cells #[.int .i64 0, .int .i64 0, .string ⟨#[]⟩, .int .i64 0, .int .i64 0, .slice none 0 0, .int .i64 0] 36)))
            have HO11 := Lib.hid (HO10.out.next (box1 w10 (.cells #[.int .i64 0, .int .i64 0, .string ⟨#[]⟩, .int .i64 0, .int .i64 0, .slice none 0 0, .int .i64 0] 36)))
            have HP11 := Lib.hid (HP10.out.next (box1 w10 (.cells #[.int .i64 0, .int .i64 0, .string ⟨#[]⟩, .int .i64 0, .int .i64 0, .slice none 0 0, .int .i64 0] 36)))
            have HRA11 := Lib.hid (HRA10.out.next (box1 w10 (.cells #[.int .i64 0, .int .i64 0, .string ⟨#[]⟩, .int .i64 0, .int .i64 0, .slice none 0 0, .int .i64 0] 36)))
            have HRB11 : Hid (Blk (w10.alloc (.cells #[.int .i64 0, .int .i64 0, .string ⟨#[]⟩, .int .i64 0, .int .i64 0, .slice none 0 0, .int .i64 0] 36)) w10.heap.size [.int .i64 0, .int .i64 0, .string ⟨#[]⟩, .int .i64 0, .int .i64 0, .slice none 0 0, .int .i64 0]) := Blk.made w10 36 [.int .i64 0, .int .i64 0, .string ⟨#[]⟩, .int .i64 0, .int .i64 0, .slice none 0 0, .int .i64 0] rfl
            obtain ⟨w11, hw11⟩ : ∃ w11, w10.alloc (.cells #[.int .i64 0, .int .i64 0, .string ⟨#[]⟩, .int .i64 0, .int .i64 0, .slice none 0 0, .int .i64 0] 36) = w11 := ⟨_, rfl⟩
            rw [hw11] at HB11 HE11 HO11 HP11 HRA11 HRB11
            rw [hw11]
            obtain ⟨bRB, hbRB⟩ : ∃ b, w10.heap.size = b := ⟨_, rfl⟩
            rw [hbRB] at HRB11
            simp only [hbRB]
            clear HB10 HE10 HO10 HP10 HRA10 hltRA_ qRA0 qRA1 qRA2 qRA3 qRA4 qRA5 qRA6 hw11 hbRB
            refine (same_pairs [] none none 0 0 _ (fun h => absurd h (by decide)) (fun h => absurd h (by decide)) (by decide)).mono ?_
            rintro e w12 ⟨rfl, hb⟩
            have HB12 := Lib.hid (Below.next HB11.out hb)
            have HE12 := Lib.hid (HE11.out.next hb)
            have HO12 := Lib.hid (HO11.out.next hb)
            have HP12 := Lib.hid (HP11.out.next hb)
            have HRA12 := Lib.hid (HRA11.out.next hb)
            have HRB12 := Lib.hid (HRB11.out.next hb)
            clear HB11 HE11 HO11 HP11 HRA11 HRB11  hb
            go_wp2_with (fail)
            go_ret
            exact ⟨by simp, HB12.out⟩
        · skip
          have hSo := (rnX_left hx1).2.2.1
          have hltE_ := HE7.out.lt
          have qE0 := HE7.out.c 0 _ rfl
          have qE1 := HE7.out.c 1 _ rfl
          have qE2 := HE7.out.c 2 _ rfl
          have qE3 := HE7.out.c 3 _ rfl
          have qE4 := HE7.out.c 4 _ rfl
          have qE5 := HE7.out.c 5 _ rfl
          have qE6 := HE7.out.c 6 _ rfl
          have qE7 := HE7.out.c 7 _ rfl
          have qE8 := HE7.out.c 8 _ rfl
          have qE9 := HE7.out.c 9 _ rfl
          have qE10 := HE7.out.c 10 _ rfl
          refine (HRU.out k v a ((q : Int) % 3000) _ HB7.out Ap cp HP7.out (by omega)).mono ?_
          rintro e w8 ⟨hb, hq1⟩
          have HB8 := Lib.hid (Below.next HB7.out hb)
          have HE8 := Lib.hid (HE7.out.next hb)
          have HO8 := Lib.hid (HO7.out.next hb)
          have HP8 := Lib.hid (HP7.out.next hb)
          clear HB7 HE7 HO7 HP7 hltE_ qE0 qE1 qE2 qE3 qE4 qE5 qE6 qE7 qE8 qE9 qE10 hb
          rw [hx1] at hq1
          obtain ⟨Ao, co, ho, rfl⟩ := hq1
          have HS8 : Hid (Prs w8 Ao S.out) := Prs.of_own ho
          clear ho
          have hltO_ := HO8.out.lt
          have qO0 := HO8.out.c 0 _ rfl
          have qO1 := HO8.out.c 1 _ rfl
          have qO2 := HO8.out.c 2 _ rfl
          have qO3 := HO8.out.c 3 _ rfl
          have qO4 := HO8.out.c 4 _ rfl
          have qO5 := HO8.out.c 5 _ rfl
          have qO6 := HO8.out.c 6 _ rfl
          have qO7 := HO8.out.c 7 _ rfl
          have qO8 := HO8.out.c 8 _ rfl
          have qO9 := HO8.out.c 9 _ rfl
          have qO10 := HO8.out.c 10 _ rfl
          go_wp2_with (fail)
          have HB9 := Lib.hid (Below.next HB8.out (box1 w8 (.cells #[.int .i64 u.k, .int .i64 u.n, .string (tx u.s), .int .i64 u.x, .int .i64 u.y, .slice Ao S.out.length co, .int .i64 (m : Int)] 36)))
          have HE9 := Lib.hid (HE8.out.next (box1 w8 (.cells #[.int .i64 u.k, .int .i64 u.n, .string (tx u.s), .int .i64 u.x, .int .i64 u.y, .slice Ao S.out.length co, .int .i64 (m : Int)] 36)))
          have HO9 := Lib.hid (HO8.out.next (box1 w8 (.cells #[.int .i64 u.k, .int .i64 u.n, .string (tx u.s), .int .i64 u.x, .int .i64 u.y, .slice Ao S.out.length co, .int .i64 (m : Int)] 36)))
          have HP9 := Lib.hid (HP8.out.next (box1 w8 (.cells #[.int .i64 u.k, .int .i64 u.n, .string (tx u.s), .int .i64 u.x, .int .i64 u.y, .slice Ao S.out.length co, .int .i64 (m : Int)] 36)))
          have HS9 := Lib.hid (HS8.out.next (box1 w8 (.cells #[.int .i64 u.k, .int .i64 u.n, .string (tx u.s), .int .i64 u.x, .int .i64 u.y, .slice Ao S.out.length co, .int .i64 (m : Int)] 36)))
          have HRA9 : Hid (Blk (w8.alloc (.cells #[.int .i64 u.k, .int .i64 u.n, .string (tx u.s), .int .i64 u.x, .int .i64 u.y, .slice Ao S.out.length co, .int .i64 (m : Int)] 36)) w8.heap.size [.int .i64 u.k, .int .i64 u.n, .string (tx u.s), .int .i64 u.x, .int .i64 u.y, .slice Ao S.out.length co, .int .i64 (m : Int)]) := Blk.made w8 36 [.int .i64 u.k, .int .i64 u.n, .string (tx u.s), .int .i64 u.x, .int .i64 u.y, .slice Ao S.out.length co, .int .i64 (m : Int)] rfl
          obtain ⟨w9, hw9⟩ : ∃ w9, w8.alloc (.cells #[.int .i64 u.k, .int .i64 u.n, .string (tx u.s), .int .i64 u.x, .int .i64 u.y, .slice Ao S.out.length co, .int .i64 (m : Int)] 36) = w9 := ⟨_, rfl⟩
          rw [hw9] at HB9 HE9 HO9 HP9 HS9 HRA9
          rw [hw9]
          obtain ⟨bRA, hbRA⟩ : ∃ b, w8.heap.size = b := ⟨_, rfl⟩
          rw [hbRA] at HRA9
          simp only [hbRA]
          clear HB8 HE8 HO8 HP8 HS8 hltO_ qO0 qO1 qO2 qO3 qO4 qO5 qO6 qO7 qO8 qO9 qO10 hw9 hbRA
          have hltO_ := HO9.out.lt
          have qO0 := HO9.out.c 0 _ rfl
          have qO1 := HO9.out.c 1 _ rfl
          have qO2 := HO9.out.c 2 _ rfl
          have qO3 := HO9.out.c 3 _ rfl
          have qO4 := HO9.out.c 4 _ rfl
          have qO5 := HO9.out.c 5 _ rfl
          have qO6 := HO9.out.c 6 _ rfl
          have qO7 := HO9.out.c 7 _ rfl
          have qO8 := HO9.out.c 8 _ rfl
          have qO9 := HO9.out.c 9 _ rfl
          have qO10 := HO9.out.c 10 _ rfl
          refine (HRU.out k2 v a2 ((q : Int) % 3000) _ HB9.out Ap cp HP9.out (by omega)).mono ?_
          rintro e w10 ⟨hb, hq2⟩
          have HB10 := Lib.hid (Below.next HB9.out hb)
          have HE10 := Lib.hid (HE9.out.next hb)
          have HO10 := Lib.hid (HO9.out.next hb)
          have HP10 := Lib.hid (HP9.out.next hb)
          have HS10 := Lib.hid (HS9.out.next hb)
          have HRA10 := Lib.hid (HRA9.out.next hb)
          clear HB9 HE9 HO9 HP9 HS9 HRA9 hltO_ qO0 qO1 qO2 qO3 qO4 qO5 qO6 qO7 qO8 qO9 qO10 hb
          rw [hx2] at hq2
          obtain ⟨Ao2, co2, ho, rfl⟩ := hq2
          rw [hSS] at ho ⊢
          have HT10 : Hid (Prs w10 Ao2 S.out) := Prs.of_own ho
          clear ho
          have hltRA_ := HRA10.out.lt
          have qRA0 := HRA10.out.c 0 _ rfl
          have qRA1 := HRA10.out.c 1 _ rfl
          have qRA2 := HRA10.out.c 2 _ rfl
          have qRA3 := HRA10.out.c 3 _ rfl
          have qRA4 := HRA10.out.c 4 _ rfl
          have qRA5 := HRA10.out.c 5 _ rfl
          have qRA6 := HRA10.out.c 6 _ rfl
          have hEV : ∀ W, (binOp .eql 26 (.agg #[.int .i64 u.k, .int .i64 u.n, .string (tx u.s), .int .i64 u.x, .int .i64 u.y]) (.agg #[.int .i64 u.k, .int .i64 u.n, .string (tx u.s), .int .i64 u.x, .int .i64 u.y])).run Tryz.prog W = .ok (.bool true) W := fun W => by
            have h := eql_va u u W
            rwa [show decide (u = u) = true from decide_eq_true rfl] at h
          go_wp2_with (fail)
          have HB11 := Lib.hid (Below.next HB10.out (box1 w10 (.cells #[.int .i64 u.k, .int .i64 u.n, .string (tx u.s), .int .i64 u.x, .int .i64 u.y, .slice Ao2 S.out.length co2, .int .i64 (m : Int)] 36)))
          have HE11 := Lib.hid (HE10.out.next (box1 w10 (.cells #[.int .i64 u.k, .int .i64 u.n, .string (tx u.s), .int .i64 u.x, .int .i64 u.y, .slice Ao2 S.out.length co2, .int .i64 (m : Int)] 36)))
          have HO11 := Lib.hid (HO10.out.next (box1 w10 (.cells #[.int .i64 u.k, .int .i64 u.n, .string (tx u.s), .int .i64 u.x, .int .i64 u.y, .slice Ao2 S.out.length co2, .int .i64 (m : Int)] 36)))
          have HP11 := Lib.hid (HP10.out.next (box1 w10 (.cells #[.int .i64 u.k, .int .i64 u.n, .string (tx u.s), .int .i64 u.x, .int .i64 u.y, .slice Ao2 S.out.length co2, .int .i64 (m : Int)] 36)))
          have HS11 := Lib.hid (HS10.out.next (box1 w10 (.cells #[.int .i64 u.k, .int .i64 u.n, .string (tx u.s), .int .i64 u.x, .int .i64 u.y, .slice Ao2 S.out.length co2, .int .i64 (m : Int)] 36)))
          have HRA11 := Lib.hid (HRA10.out.next (box1 w10 (.cells #[.int .i64 u.k, .int .i64 u.n, .string (tx u.s), .int .i64 u.x, .int .i64 u.y, .slice Ao2 S.out.length co2, .int .i64 (m : Int)] 36)))
          have HT11 := Lib.hid (HT10.out.next (box1 w10 (.cells #[.int .i64 u.k, .int .i64 u.n, .string (tx u.s), .int .i64 u.x, .int .i64 u.y, .slice Ao2 S.out.length co2, .int .i64 (m : Int)] 36)))
          have HRB11 : Hid (Blk (w10.alloc (.cells #[.int .i64 u.k, .int .i64 u.n, .string (tx u.s), .int .i64 u.x, .int .i64 u.y, .slice Ao2 S.out.length co2, .int .i64 (m : Int)] 36)) w10.heap.size [.int .i64 u.k, .int .i64 u.n, .string (tx u.s), .int .i64 u.x, .int .i64 u.y, .slice Ao2 S.out.length co2, .int .i64 (m : Int)]) := Blk.made w10 36 [.int .i64 u.k, .int .i64 u.n, .string (tx u.s), .int .i64 u.x, .int .i64 u.y, .slice Ao2 S.out.length co2, .int .i64 (m : Int)] rfl
          obtain ⟨w11, hw11⟩ : ∃ w11, w10.alloc (.cells #[.int .i64 u.k, .int .i64 u.n, .string (tx u.s), .int .i64 u.x, .int .i64 u.y, .slice Ao2 S.out.length co2, .int .i64 (m : Int)] 36) = w11 := ⟨_, rfl⟩
          rw [hw11] at HB11 HE11 HO11 HP11 HS11 HRA11 HT11 HRB11
          rw [hw11]
          obtain ⟨bRB, hbRB⟩ : ∃ b, w10.heap.size = b := ⟨_, rfl⟩
          rw [hbRB] at HRB11
          simp only [hbRB]
          clear HB10 HE10 HO10 HP10 HS10 HRA10 HT10 hltRA_ qRA0 qRA1 qRA2 qRA3 qRA4 qRA5 qRA6 hw11 hbRB
          refine (same_pairs S.out Ao Ao2 co co2 _ HS11.out HT11.out (by omega)).mono ?_
          rintro e w12 ⟨rfl, hb⟩
          have HB12 := Lib.hid (Below.next HB11.out hb)
          have HE12 := Lib.hid (HE11.out.next hb)
          have HO12 := Lib.hid (HO11.out.next hb)
          have HP12 := Lib.hid (HP11.out.next hb)
          have HS12 := Lib.hid (HS11.out.next hb)
          have HRA12 := Lib.hid (HRA11.out.next hb)
          have HT12 := Lib.hid (HT11.out.next hb)
          have HRB12 := Lib.hid (HRB11.out.next hb)
          clear HB11 HE11 HO11 HP11 HS11 HRA11 HT11 HRB11  hb
          go_wp2_with (fail)
          go_ret
          exact ⟨by simp, HB12.out⟩
      · skip
        have hltE_ := HE6.out.lt
        have qE0 := HE6.out.c 0 _ rfl
        have qE1 := HE6.out.c 1 _ rfl
        have qE2 := HE6.out.c 2 _ rfl
        have qE3 := HE6.out.c 3 _ rfl
        have qE4 := HE6.out.c 4 _ rfl
        have qE5 := HE6.out.c 5 _ rfl
        have qE6 := HE6.out.c 6 _ rfl
        have qE7 := HE6.out.c 7 _ rfl
        have qE8 := HE6.out.c 8 _ rfl
        have qE9 := HE6.out.c 9 _ rfl
        have qE10 := HE6.out.c 10 _ rfl
        have hltO_ := HO6.out.lt
        have qO0 := HO6.out.c 0 _ rfl
        have qO1 := HO6.out.c 1 _ rfl
        have qO2 := HO6.out.c 2 _ rfl
        have qO3 := HO6.out.c 3 _ rfl
        have qO4 := HO6.out.c 4 _ rfl
        have qO5 := HO6.out.c 5 _ rfl
        have qO6 := HO6.out.c 6 _ rfl
        have qO7 := HO6.out.c 7 _ rfl
        have qO8 := HO6.out.c 8 _ rfl
        have qO9 := HO6.out.c 9 _ rfl
        have qO10 := HO6.out.c 10 _ rfl
        have z0 := HO6.out.f 0 _ rfl
        have z1 := HO6.out.f 1 _ rfl
        have z2 := HO6.out.f 2 _ rfl
        have z3 := HO6.out.f 3 _ rfl
        have z4 := HO6.out.f 4 _ rfl
        have z5 := HO6.out.f 5 _ rfl
        have z6 := HO6.out.f 6 _ rfl
        have z7 := HO6.out.f 7 _ rfl
        have z8 := HO6.out.f 8 _ rfl
        have z9 := HO6.out.f 9 _ rfl
        have z10 := HO6.out.f 10 _ rfl
        go_wp2_with (fail)
        have hb9 := (below_puts (B := w.heap.size + 1) [.int .i64 a.k, .int .i64 a.n, .string (tx a.s), .int .i64 a.x, .int .i64 a.y] 6 (below_puts (B := w.heap.size + 1) [.int .i64 v.k, .int .i64 v.n, .string (tx v.s), .int .i64 v.x, .int .i64 v.y] 1 HB6.out (by omega)) (by omega))
        have he9 := (blk_puts_other (C := w.heap.size + 1) (by omega) [.int .i64 a.k, .int .i64 a.n, .string (tx a.s), .int .i64 a.x, .int .i64 a.y] 6 (blk_puts_other (C := w.heap.size + 1) (by omega) [.int .i64 v.k, .int .i64 v.n, .string (tx v.s), .int .i64 v.x, .int .i64 v.y] 1 HE6.out))
        have ho9 := (blk_puts [.int .i64 a.k, .int .i64 a.n, .string (tx a.s), .int .i64 a.x, .int .i64 a.y] 6 (blk_puts [.int .i64 v.k, .int .i64 v.n, .string (tx v.s), .int .i64 v.x, .int .i64 v.y] 1 HO6.out (by simp)) (by simp))
        have hp9 := (nds_puts (C := w.heap.size + 1) [.int .i64 a.k, .int .i64 a.n, .string (tx a.s), .int .i64 a.x, .int .i64 a.y] 6 (nds_puts (C := w.heap.size + 1) [.int .i64 v.k, .int .i64 v.n, .string (tx v.s), .int .i64 v.x, .int .i64 v.y] 1 HP6.out HPF.out) HPF.out)
        change Blk _ _ [.string (tx k2), .int .i64 v.k, .int .i64 v.n, .string (tx v.s), .int .i64 v.x, .int .i64 v.y, .int .i64 a.k, .int .i64 a.n, .string (tx a.s), .int .i64 a.x, .int .i64 a.y] at ho9
        change Calls _ _ _ ((putL (putL w6 (w.heap.size + 1) 1 [.int .i64 v.k, .int .i64 v.n, .string (tx v.s), .int .i64 v.x, .int .i64 v.y]) (w.heap.size + 1) 6 [.int .i64 a.k, .int .i64 a.n, .string (tx a.s), .int .i64 a.x, .int .i64 a.y]).alloc (.cells #[.bool false, .bool true, .bool true, .bool n3, .bool n4] 52)) _
        obtain ⟨x9, hx9⟩ : ∃ x9, (putL (putL w6 (w.heap.size + 1) 1 [.int .i64 v.k, .int .i64 v.n, .string (tx v.s), .int .i64 v.x, .int .i64 v.y]) (w.heap.size + 1) 6 [.int .i64 a.k, .int .i64 a.n, .string (tx a.s), .int .i64 a.x, .int .i64 a.y]) = x9 := ⟨_, rfl⟩
        rw [hx9] at hb9 he9 ho9 hp9 ⊢
        clear hx9
        have HB7 := Lib.hid (Below.next hb9 (box1 x9 (.cells #[.bool false, .bool true, .bool true, .bool n3, .bool n4] 52))); have HE7 := Lib.hid (he9.old (.cells #[.bool false, .bool true, .bool true, .bool n3, .bool n4] 52)); have HO7 := Lib.hid (ho9.old (.cells #[.bool false, .bool true, .bool true, .bool n3, .bool n4] 52)); have HP7 := Lib.hid (hp9.next (box1 x9 (.cells #[.bool false, .bool true, .bool true, .bool n3, .bool n4] 52)))
        obtain ⟨w7, hw7⟩ : ∃ w7, x9.alloc (.cells #[.bool false, .bool true, .bool true, .bool n3, .bool n4] 52) = w7 := ⟨_, rfl⟩
        rw [hw7] at HB7 HE7 HO7 HP7 ⊢
        clear HB6 HE6 HO6 HP6 hltE_ qE0 qE1 qE2 qE3 qE4 qE5 qE6 qE7 qE8 qE9 qE10 hltO_ qO0 qO1 qO2 qO3 qO4 qO5 qO6 qO7 qO8 qO9 qO10 z0 z1 z2 z3 z4 z5 z6 z7 z8 z9 z10 hb9 he9 ho9 hp9 hw7
        have htwo := names_two (HALI.out k2 v a (fun h => by cases h) (fun _ => rfl) (fun _ => rfl)) ((q : Int) % 3000)
        rcases htwo with htwo | ⟨x, hx1, hx2⟩ | ⟨u, S, S2, m, hx1, hx2, hSS⟩
        · skip
          have hltE_ := HE7.out.lt
          have qE0 := HE7.out.c 0 _ rfl
          have qE1 := HE7.out.c 1 _ rfl
          have qE2 := HE7.out.c 2 _ rfl
          have qE3 := HE7.out.c 3 _ rfl
          have qE4 := HE7.out.c 4 _ rfl
          have qE5 := HE7.out.c 5 _ rfl
          have qE6 := HE7.out.c 6 _ rfl
          have qE7 := HE7.out.c 7 _ rfl
          have qE8 := HE7.out.c 8 _ rfl
          have qE9 := HE7.out.c 9 _ rfl
          have qE10 := HE7.out.c 10 _ rfl
          refine (HRU.out k v a ((q : Int) % 3000) _ HB7.out Ap cp HP7.out (by omega)).mono ?_
          rintro e w8 ⟨hb, hq1⟩
          have HB8 := Lib.hid (Below.next HB7.out hb)
          have HE8 := Lib.hid (HE7.out.next hb)
          have HO8 := Lib.hid (HO7.out.next hb)
          have HP8 := Lib.hid (HP7.out.next hb)
          clear HB7 HE7 HO7 HP7 hltE_ qE0 qE1 qE2 qE3 qE4 qE5 qE6 qE7 qE8 qE9 qE10 hb
          obtain ⟨X1, hX1⟩ : ∃ X, rnX l k v a ((q : Int) % 3000) = X := ⟨_, rfl⟩
          rw [hX1] at hq1 htwo
          obtain ⟨X2, hX2⟩ : ∃ X, rnX l k2 v a ((q : Int) % 3000) = X := ⟨_, rfl⟩
          rw [hX2] at htwo
          clear hX1
          cases X1 with
          | er y1 =>
            obtain ⟨hy1, rfl⟩ := hq1
            have hy2 : (y1 == 0) = false := by simpa using hy1
            have hltO_ := HO8.out.lt
            have qO0 := HO8.out.c 0 _ rfl
            have qO1 := HO8.out.c 1 _ rfl
            have qO2 := HO8.out.c 2 _ rfl
            have qO3 := HO8.out.c 3 _ rfl
            have qO4 := HO8.out.c 4 _ rfl
            have qO5 := HO8.out.c 5 _ rfl
            have qO6 := HO8.out.c 6 _ rfl
            have qO7 := HO8.out.c 7 _ rfl
            have qO8 := HO8.out.c 8 _ rfl
            have qO9 := HO8.out.c 9 _ rfl
            have qO10 := HO8.out.c 10 _ rfl
            go_wp2_with (fail)
            have HB9 := Lib.hid (Below.next HB8.out (box1 w8 (.cells #[.int .i64 0, .int .i64 0, .string ⟨#[]⟩, .int .i64 0, .int .i64 0, .slice none 0 0, .int .i64 0] 36)))
            have HE9 := Lib.hid (HE8.out.next (box1 w8 (.cells #[.int .i64 0, .int .i64 0, .string ⟨#[]⟩, .int .i64 0, .int .i64 0, .slice none 0 0, .int .i64 0] 36)))
            have HO9 := Lib.hid (HO8.out.next (box1 w8 (.cells #[.int .i64 0, .int .i64 0, .string ⟨#[]⟩, .int .i64 0, .int .i64 0, .slice none 0 0, .int .i64 0] 36)))
            have HP9 := Lib.hid (HP8.out.next (box1 w8 (.cells #[.int .i64 0, .int .i64 0, .string ⟨#[]⟩, .int .i64 0, .int .i64 0, .slice none 0 0, .int .i64 0] 36)))
            have HRA9 : Hid (Blk (w8.alloc (.cells #[.int .i64 0, .int .i64 0, .string ⟨#[]⟩, .int .i64 0, .int .i64 0, .slice none 0 0, .int .i64 0] 36)) w8.heap.size [.int .i64 0, .int .i64 0, .string ⟨#[]⟩, .int .i64 0, .int .i64 0, .slice none 0 0, .int .i64 0]) := Blk.made w8 36 [.int .i64 0, .int .i64 0, .string ⟨#[]⟩, .int .i64 0, .int .i64 0, .slice none 0 0, .int .i64 0] rfl
            obtain ⟨w9, hw9⟩ : ∃ w9, w8.alloc (.cells #[.int .i64 0, .int .i64 0, .string ⟨#[]⟩, .int .i64 0, .int .i64 0, .slice none 0 0, .int .i64 0] 36) = w9 := ⟨_, rfl⟩
            rw [hw9] at HB9 HE9 HO9 HP9 HRA9
            rw [hw9]
            obtain ⟨bRA, hbRA⟩ : ∃ b, w8.heap.size = b := ⟨_, rfl⟩
            rw [hbRA] at HRA9
            simp only [hbRA]
            clear HB8 HE8 HO8 HP8 hltO_ qO0 qO1 qO2 qO3 qO4 qO5 qO6 qO7 qO8 qO9 qO10 hw9 hbRA
            have hltO_ := HO9.out.lt
            have qO0 := HO9.out.c 0 _ rfl
            have qO1 := HO9.out.c 1 _ rfl
            have qO2 := HO9.out.c 2 _ rfl
            have qO3 := HO9.out.c 3 _ rfl
            have qO4 := HO9.out.c 4 _ rfl
            have qO5 := HO9.out.c 5 _ rfl
            have qO6 := HO9.out.c 6 _ rfl
            have qO7 := HO9.out.c 7 _ rfl
            have qO8 := HO9.out.c 8 _ rfl
            have qO9 := HO9.out.c 9 _ rfl
            have qO10 := HO9.out.c 10 _ rfl
            refine (HRU.out k2 v a ((q : Int) % 3000) _ HB9.out Ap cp HP9.out (by omega)).mono ?_
            rintro e w10 ⟨hb, hq2⟩
            have HB10 := Lib.hid (Below.next HB9.out hb)
            have HE10 := Lib.hid (HE9.out.next hb)
            have HO10 := Lib.hid (HO9.out.next hb)
            have HP10 := Lib.hid (HP9.out.next hb)
            have HRA10 := Lib.hid (HRA9.out.next hb)
            clear HB9 HE9 HO9 HP9 HRA9 hltO_ qO0 qO1 qO2 qO3 qO4 qO5 qO6 qO7 qO8 qO9 qO10 hb
            rw [hX2] at hq2
            clear hX2
            cases X2 with
            | er y2 =>
              obtain ⟨_, rfl⟩ := hq2
              rcases htwo with h | h <;> injection h with h <;> subst h
              all_goals
                go_wp2_with (fail)
                all_goals
                  go_ret
                  exact ⟨by simp, Below.next HB10.out (box1 _ _)⟩
            | ok u2 S2 m2 =>
              obtain ⟨Ao2, co2, _, rfl⟩ := hq2
              obtain rfl : y1 = 1 := by
                rcases htwo with h | h
                · injection h
                · cases h
              go_wp2_with (fail)
              go_ret
              exact ⟨by simp, Below.next HB10.out (box1 _ _)⟩
          | ok u1 S1 m1 =>
            obtain ⟨Ao, co, _, rfl⟩ := hq1
            have hltO_ := HO8.out.lt
            have qO0 := HO8.out.c 0 _ rfl
            have qO1 := HO8.out.c 1 _ rfl
            have qO2 := HO8.out.c 2 _ rfl
            have qO3 := HO8.out.c 3 _ rfl
            have qO4 := HO8.out.c 4 _ rfl
            have qO5 := HO8.out.c 5 _ rfl
            have qO6 := HO8.out.c 6 _ rfl
            have qO7 := HO8.out.c 7 _ rfl
            have qO8 := HO8.out.c 8 _ rfl
            have qO9 := HO8.out.c 9 _ rfl
            have qO10 := HO8.out.c 10 _ rfl
            go_wp2_with (fail)
            have HB9 := Lib.hid (Below.next HB8.out (box1 w8 (.cells #[.int .i64 u1.k, .int .i64 u1.n, .string (tx u1.s), .int .i64 u1.x, .int .i64 u1.y, .slice Ao S1.out.length co, .int .i64 (m1 : Int)] 36)))
            have HE9 := Lib.hid (HE8.out.next (box1 w8 (.cells #[.int .i64 u1.k, .int .i64 u1.n, .string (tx u1.s), .int .i64 u1.x, .int .i64 u1.y, .slice Ao S1.out.length co, .int .i64 (m1 : Int)] 36)))
            have HO9 := Lib.hid (HO8.out.next (box1 w8 (.cells #[.int .i64 u1.k, .int .i64 u1.n, .string (tx u1.s), .int .i64 u1.x, .int .i64 u1.y, .slice Ao S1.out.length co, .int .i64 (m1 : Int)] 36)))
            have HP9 := Lib.hid (HP8.out.next (box1 w8 (.cells #[.int .i64 u1.k, .int .i64 u1.n, .string (tx u1.s), .int .i64 u1.x, .int .i64 u1.y, .slice Ao S1.out.length co, .int .i64 (m1 : Int)] 36)))
            have HRA9 : Hid (Blk (w8.alloc (.cells #[.int .i64 u1.k, .int .i64 u1.n, .string (tx u1.s), .int .i64 u1.x, .int .i64 u1.y, .slice Ao S1.out.length co, .int .i64 (m1 : Int)] 36)) w8.heap.size [.int .i64 u1.k, .int .i64 u1.n, .string (tx u1.s), .int .i64 u1.x, .int .i64 u1.y, .slice Ao S1.out.length co, .int .i64 (m1 : Int)]) := Blk.made w8 36 [.int .i64 u1.k, .int .i64 u1.n, .string (tx u1.s), .int .i64 u1.x, .int .i64 u1.y, .slice Ao S1.out.length co, .int .i64 (m1 : Int)] rfl
            obtain ⟨w9, hw9⟩ : ∃ w9, w8.alloc (.cells #[.int .i64 u1.k, .int .i64 u1.n, .string (tx u1.s), .int .i64 u1.x, .int .i64 u1.y, .slice Ao S1.out.length co, .int .i64 (m1 : Int)] 36) = w9 := ⟨_, rfl⟩
            rw [hw9] at HB9 HE9 HO9 HP9 HRA9
            rw [hw9]
            obtain ⟨bRA, hbRA⟩ : ∃ b, w8.heap.size = b := ⟨_, rfl⟩
            rw [hbRA] at HRA9
            simp only [hbRA]
            clear HB8 HE8 HO8 HP8 hltO_ qO0 qO1 qO2 qO3 qO4 qO5 qO6 qO7 qO8 qO9 qO10 hw9 hbRA
            have hltO_ := HO9.out.lt
            have qO0 := HO9.out.c 0 _ rfl
            have qO1 := HO9.out.c 1 _ rfl
            have qO2 := HO9.out.c 2 _ rfl
            have qO3 := HO9.out.c 3 _ rfl
            have qO4 := HO9.out.c 4 _ rfl
            have qO5 := HO9.out.c 5 _ rfl
            have qO6 := HO9.out.c 6 _ rfl
            have qO7 := HO9.out.c 7 _ rfl
            have qO8 := HO9.out.c 8 _ rfl
            have qO9 := HO9.out.c 9 _ rfl
            have qO10 := HO9.out.c 10 _ rfl
            refine (HRU.out k2 v a ((q : Int) % 3000) _ HB9.out Ap cp HP9.out (by omega)).mono ?_
            rintro e w10 ⟨hb, hq2⟩
            have HB10 := Lib.hid (Below.next HB9.out hb)
            have HE10 := Lib.hid (HE9.out.next hb)
            have HO10 := Lib.hid (HO9.out.next hb)
            have HP10 := Lib.hid (HP9.out.next hb)
            have HRA10 := Lib.hid (HRA9.out.next hb)
            clear HB9 HE9 HO9 HP9 HRA9 hltO_ qO0 qO1 qO2 qO3 qO4 qO5 qO6 qO7 qO8 qO9 qO10 hb
            rw [hX2] at hq2
            clear hX2
            cases X2 with
            | er y2 =>
              obtain ⟨_, rfl⟩ := hq2
              obtain rfl : y2 = 1 := by
                rcases htwo with h | h
                · cases h
                · injection h
              go_wp2_with (fail)
              go_ret
              exact ⟨by simp, Below.next HB10.out (box1 _ _)⟩
            | ok u2 S2 m2 =>
              obtain ⟨Ao2, co2, _, rfl⟩ := hq2
              rcases htwo with h | h <;> cases h
        · skip
          have hltE_ := HE7.out.lt
          have qE0 := HE7.out.c 0 _ rfl
          have qE1 := HE7.out.c 1 _ rfl
          have qE2 := HE7.out.c 2 _ rfl
          have qE3 := HE7.out.c 3 _ rfl
          have qE4 := HE7.out.c 4 _ rfl
          have qE5 := HE7.out.c 5 _ rfl
          have qE6 := HE7.out.c 6 _ rfl
          have qE7 := HE7.out.c 7 _ rfl
          have qE8 := HE7.out.c 8 _ rfl
          have qE9 := HE7.out.c 9 _ rfl
          have qE10 := HE7.out.c 10 _ rfl
          refine (HRU.out k v a ((q : Int) % 3000) _ HB7.out Ap cp HP7.out (by omega)).mono ?_
          rintro e w8 ⟨hb, hq1⟩
          have HB8 := Lib.hid (Below.next HB7.out hb)
          have HE8 := Lib.hid (HE7.out.next hb)
          have HO8 := Lib.hid (HO7.out.next hb)
          have HP8 := Lib.hid (HP7.out.next hb)
          clear HB7 HE7 HO7 HP7 hltE_ qE0 qE1 qE2 qE3 qE4 qE5 qE6 qE7 qE8 qE9 qE10 hb
          rw [hx1] at hq1
          obtain ⟨hy1, rfl⟩ := hq1
          have hltO_ := HO8.out.lt
          have qO0 := HO8.out.c 0 _ rfl
          have qO1 := HO8.out.c 1 _ rfl
          have qO2 := HO8.out.c 2 _ rfl
          have qO3 := HO8.out.c 3 _ rfl
          have qO4 := HO8.out.c 4 _ rfl
          have qO5 := HO8.out.c 5 _ rfl
          have qO6 := HO8.out.c 6 _ rfl
          have qO7 := HO8.out.c 7 _ rfl
          have qO8 := HO8.out.c 8 _ rfl
          have qO9 := HO8.out.c 9 _ rfl
          have qO10 := HO8.out.c 10 _ rfl
          go_wp2_with (fail)
          have HB9 := Lib.hid (Below.next HB8.out (box1 w8 (.cells #[.int .i64 0, .int .i64 0, .string ⟨#[]⟩, .int .i64 0, .int .i64 0, .slice none 0 0, .int .i64 0] 36)))
          have HE9 := Lib.hid (HE8.out.next (box1 w8 (.cells #[.int .i64 0, .int .i64 0, .string ⟨#[]⟩, .int .i64 0, .int .i64 0, .slice none 0 0, .int .i64 0] 36)))
          have HO9 := Lib.hid (HO8.out.next (box1 w8 (.cells #[.int .i64 0, .int .i64 0, .string ⟨#[]⟩, .int .i64 0, .int .i64 0, .slice none 0 0, .int .i64 0] 36)))
          have HP9 := Lib.hid (HP8.out.next (box1 w8 (.cells #[.int .i64 0, .int .i64 0, .string ⟨#[]⟩, .int .i64 0, .int .i64 0, .slice none 0 0, .int .i64 0] 36)))
          have HRA9 : Hid (Blk (w8.alloc (.cells #[.int .i64 0, .int .i64 0, .string ⟨#[]⟩, .int .i64 0, .int .i64 0, .slice none 0 0, .int .i64 0] 36)) w8.heap.size [.int .i64 0, .int .i64 0, .string ⟨#[]⟩, .int .i64 0, .int .i64 0, .slice none 0 0, .int .i64 0]) := Blk.made w8 36 [.int .i64 0, .int .i64 0, .string ⟨#[]⟩, .int .i64 0, .int .i64 0, .slice none 0 0, .int .i64 0] rfl
          obtain ⟨w9, hw9⟩ : ∃ w9, w8.alloc (.cells #[.int .i64 0, .int .i64 0, .string ⟨#[]⟩, .int .i64 0, .int .i64 0, .slice none 0 0, .int .i64 0] 36) = w9 := ⟨_, rfl⟩
          rw [hw9] at HB9 HE9 HO9 HP9 HRA9
          rw [hw9]
          obtain ⟨bRA, hbRA⟩ : ∃ b, w8.heap.size = b := ⟨_, rfl⟩
          rw [hbRA] at HRA9
          simp only [hbRA]
          clear HB8 HE8 HO8 HP8 hltO_ qO0 qO1 qO2 qO3 qO4 qO5 qO6 qO7 qO8 qO9 qO10 hw9 hbRA
          have hltO_ := HO9.out.lt
          have qO0 := HO9.out.c 0 _ rfl
          have qO1 := HO9.out.c 1 _ rfl
          have qO2 := HO9.out.c 2 _ rfl
          have qO3 := HO9.out.c 3 _ rfl
          have qO4 := HO9.out.c 4 _ rfl
          have qO5 := HO9.out.c 5 _ rfl
          have qO6 := HO9.out.c 6 _ rfl
          have qO7 := HO9.out.c 7 _ rfl
          have qO8 := HO9.out.c 8 _ rfl
          have qO9 := HO9.out.c 9 _ rfl
          have qO10 := HO9.out.c 10 _ rfl
          refine (HRU.out k2 v a ((q : Int) % 3000) _ HB9.out Ap cp HP9.out (by omega)).mono ?_
          rintro e w10 ⟨hb, hq2⟩
          have HB10 := Lib.hid (Below.next HB9.out hb)
          have HE10 := Lib.hid (HE9.out.next hb)
          have HO10 := Lib.hid (HO9.out.next hb)
          have HP10 := Lib.hid (HP9.out.next hb)
          have HRA10 := Lib.hid (HRA9.out.next hb)
          clear HB9 HE9 HO9 HP9 HRA9 hltO_ qO0 qO1 qO2 qO3 qO4 qO5 qO6 qO7 qO8 qO9 qO10 hb
          rw [hx2] at hq2
          obtain ⟨_, rfl⟩ := hq2
          have hltRA_ := HRA10.out.lt
          have qRA0 := HRA10.out.c 0 _ rfl
          have qRA1 := HRA10.out.c 1 _ rfl
          have qRA2 := HRA10.out.c 2 _ rfl
          have qRA3 := HRA10.out.c 3 _ rfl
          have qRA4 := HRA10.out.c 4 _ rfl
          have qRA5 := HRA10.out.c 5 _ rfl
          have qRA6 := HRA10.out.c 6 _ rfl
          have hEV : ∀ W, (binOp .eql 26 (.agg #[.int .i64 vz.k, .int .i64 vz.n, .string (tx vz.s), .int .i64 vz.x, .int .i64 vz.y]) (.agg #[.int .i64 vz.k, .int .i64 vz.n, .string (tx vz.s), .int .i64 vz.x, .int .i64 vz.y])).run Tryz.prog W = .ok (.bool true) W := fun W => eql_va vz vz W
          change ∀ W, (binOp .eql 26 (.agg #[.int .i64 0, .int .i64 0, .string ⟨#[]⟩, .int .i64 0, .int .i64 0]) (.agg #[.int .i64 0, .int .i64 0, .string ⟨#[]⟩, .int .i64 0, .int .i64 0])).run Tryz.prog W = .ok (.bool true) W at hEV
          by_cases hy3 : x = 1
          · subst hy3
            go_wp2_with (fail)
            go_ret
            exact ⟨by simp, Below.next HB10.out (box1 _ _)⟩
          · have hy4 : (x == 1) = false := by simpa using hy3
            go_wp2_with (fail)
            have HB11 := Lib.hid (Below.next HB10.out (box1 w10 (.cells #[.int .i64 0, .int .i64 0, .string ⟨#[]⟩, .int .i64 0, .int .i64 0, .slice none 0 0, .int .i64 0] 36)))
            have HE11 := Lib.hid (HE10.out.next (box1 w10 (.cells #[.int .i64 0, .int .i64 0, .string ⟨#[]⟩, .int .i64 0, .int .i64 0, .slice none 0 0, .int .i64 0] 36)))
            have HO11 := Lib.hid (HO10.out.next (box1 w10 (.cells #[.int .i64 0, .int .i64 0, .string ⟨#[]⟩, .int .i64 0, .int .i64 0, .slice none 0 0, .int .i64 0] 36)))
            have HP11 := Lib.hid (HP10.out.next (box1 w10 (.cells #[.int .i64 0, .int .i64 0, .string ⟨#[]⟩, .int .i64 0, .int .i64 0, .slice none 0 0, .int .i64 0] 36)))
            have HRA11 := Lib.hid (HRA10.out.next (box1 w10 (.cells #[.int .i64 0, .int .i64 0, .string ⟨#[]⟩, .int .i64 0, .int .i64 0, .slice none 0 0, .int .i64 0] 36)))
            have HRB11 : Hid (Blk (w10.alloc (.cells #[.int .i64 0, .int .i64 0, .string ⟨#[]⟩, .int .i64 0, .int .i64 0, .slice none 0 0, .int .i64 0] 36)) w10.heap.size [.int .i64 0, .int .i64 0, .string ⟨#[]⟩, .int .i64 0, .int .i64 0, .slice none 0 0, .int .i64 0]) := Blk.made w10 36 [.int .i64 0, .int .i64 0, .string ⟨#[]⟩, .int .i64 0, .int .i64 0, .slice none 0 0, .int .i64 0] rfl
            obtain ⟨w11, hw11⟩ : ∃ w11, w10.alloc (.cells #[.int .i64 0, .int .i64 0, .string ⟨#[]⟩, .int .i64 0, .int .i64 0, .slice none 0 0, .int .i64 0] 36) = w11 := ⟨_, rfl⟩
            rw [hw11] at HB11 HE11 HO11 HP11 HRA11 HRB11
            rw [hw11]
            obtain ⟨bRB, hbRB⟩ : ∃ b, w10.heap.size = b := ⟨_, rfl⟩
            rw [hbRB] at HRB11
            simp only [hbRB]
            clear HB10 HE10 HO10 HP10 HRA10 hltRA_ qRA0 qRA1 qRA2 qRA3 qRA4 qRA5 qRA6 hw11 hbRB
            refine (same_pairs [] none none 0 0 _ (fun h => absurd h (by decide)) (fun h => absurd h (by decide)) (by decide)).mono ?_
            rintro e w12 ⟨rfl, hb⟩
            have HB12 := Lib.hid (Below.next HB11.out hb)
            have HE12 := Lib.hid (HE11.out.next hb)
            have HO12 := Lib.hid (HO11.out.next hb)
            have HP12 := Lib.hid (HP11.out.next hb)
            have HRA12 := Lib.hid (HRA11.out.next hb)
            have HRB12 := Lib.hid (HRB11.out.next hb)
            clear HB11 HE11 HO11 HP11 HRA11 HRB11  hb
            go_wp2_with (fail)
            go_ret
            exact ⟨by simp, HB12.out⟩
        · skip
          have hSo := (rnX_left hx1).2.2.1
          have hltE_ := HE7.out.lt
          have qE0 := HE7.out.c 0 _ rfl
          have qE1 := HE7.out.c 1 _ rfl
          have qE2 := HE7.out.c 2 _ rfl
          have qE3 := HE7.out.c 3 _ rfl
          have qE4 := HE7.out.c 4 _ rfl
          have qE5 := HE7.out.c 5 _ rfl
          have qE6 := HE7.out.c 6 _ rfl
          have qE7 := HE7.out.c 7 _ rfl
          have qE8 := HE7.out.c 8 _ rfl
          have qE9 := HE7.out.c 9 _ rfl
          have qE10 := HE7.out.c 10 _ rfl
          refine (HRU.out k v a ((q : Int) % 3000) _ HB7.out Ap cp HP7.out (by omega)).mono ?_
          rintro e w8 ⟨hb, hq1⟩
          have HB8 := Lib.hid (Below.next HB7.out hb)
          have HE8 := Lib.hid (HE7.out.next hb)
          have HO8 := Lib.hid (HO7.out.next hb)
          have HP8 := Lib.hid (HP7.out.next hb)
          clear HB7 HE7 HO7 HP7 hltE_ qE0 qE1 qE2 qE3 qE4 qE5 qE6 qE7 qE8 qE9 qE10 hb
          rw [hx1] at hq1
          obtain ⟨Ao, co, ho, rfl⟩ := hq1
          have HS8 : Hid (Prs w8 Ao S.out) := Prs.of_own ho
          clear ho
          have hltO_ := HO8.out.lt
          have qO0 := HO8.out.c 0 _ rfl
          have qO1 := HO8.out.c 1 _ rfl
          have qO2 := HO8.out.c 2 _ rfl
          have qO3 := HO8.out.c 3 _ rfl
          have qO4 := HO8.out.c 4 _ rfl
          have qO5 := HO8.out.c 5 _ rfl
          have qO6 := HO8.out.c 6 _ rfl
          have qO7 := HO8.out.c 7 _ rfl
          have qO8 := HO8.out.c 8 _ rfl
          have qO9 := HO8.out.c 9 _ rfl
          have qO10 := HO8.out.c 10 _ rfl
          go_wp2_with (fail)
          have HB9 := Lib.hid (Below.next HB8.out (box1 w8 (.cells #[.int .i64 u.k, .int .i64 u.n, .string (tx u.s), .int .i64 u.x, .int .i64 u.y, .slice Ao S.out.length co, .int .i64 (m : Int)] 36)))
          have HE9 := Lib.hid (HE8.out.next (box1 w8 (.cells #[.int .i64 u.k, .int .i64 u.n, .string (tx u.s), .int .i64 u.x, .int .i64 u.y, .slice Ao S.out.length co, .int .i64 (m : Int)] 36)))
          have HO9 := Lib.hid (HO8.out.next (box1 w8 (.cells #[.int .i64 u.k, .int .i64 u.n, .string (tx u.s), .int .i64 u.x, .int .i64 u.y, .slice Ao S.out.length co, .int .i64 (m : Int)] 36)))
          have HP9 := Lib.hid (HP8.out.next (box1 w8 (.cells #[.int .i64 u.k, .int .i64 u.n, .string (tx u.s), .int .i64 u.x, .int .i64 u.y, .slice Ao S.out.length co, .int .i64 (m : Int)] 36)))
          have HS9 := Lib.hid (HS8.out.next (box1 w8 (.cells #[.int .i64 u.k, .int .i64 u.n, .string (tx u.s), .int .i64 u.x, .int .i64 u.y, .slice Ao S.out.length co, .int .i64 (m : Int)] 36)))
          have HRA9 : Hid (Blk (w8.alloc (.cells #[.int .i64 u.k, .int .i64 u.n, .string (tx u.s), .int .i64 u.x, .int .i64 u.y, .slice Ao S.out.length co, .int .i64 (m : Int)] 36)) w8.heap.size [.int .i64 u.k, .int .i64 u.n, .string (tx u.s), .int .i64 u.x, .int .i64 u.y, .slice Ao S.out.length co, .int .i64 (m : Int)]) := Blk.made w8 36 [.int .i64 u.k, .int .i64 u.n, .string (tx u.s), .int .i64 u.x, .int .i64 u.y, .slice Ao S.out.length co, .int .i64 (m : Int)] rfl
          obtain ⟨w9, hw9⟩ : ∃ w9, w8.alloc (.cells #[.int .i64 u.k, .int .i64 u.n, .string (tx u.s), .int .i64 u.x, .int .i64 u.y, .slice Ao S.out.length co, .int .i64 (m : Int)] 36) = w9 := ⟨_, rfl⟩
          rw [hw9] at HB9 HE9 HO9 HP9 HS9 HRA9
          rw [hw9]
          obtain ⟨bRA, hbRA⟩ : ∃ b, w8.heap.size = b := ⟨_, rfl⟩
          rw [hbRA] at HRA9
          simp only [hbRA]
          clear HB8 HE8 HO8 HP8 HS8 hltO_ qO0 qO1 qO2 qO3 qO4 qO5 qO6 qO7 qO8 qO9 qO10 hw9 hbRA
          have hltO_ := HO9.out.lt
          have qO0 := HO9.out.c 0 _ rfl
          have qO1 := HO9.out.c 1 _ rfl
          have qO2 := HO9.out.c 2 _ rfl
          have qO3 := HO9.out.c 3 _ rfl
          have qO4 := HO9.out.c 4 _ rfl
          have qO5 := HO9.out.c 5 _ rfl
          have qO6 := HO9.out.c 6 _ rfl
          have qO7 := HO9.out.c 7 _ rfl
          have qO8 := HO9.out.c 8 _ rfl
          have qO9 := HO9.out.c 9 _ rfl
          have qO10 := HO9.out.c 10 _ rfl
          refine (HRU.out k2 v a ((q : Int) % 3000) _ HB9.out Ap cp HP9.out (by omega)).mono ?_
          rintro e w10 ⟨hb, hq2⟩
          have HB10 := Lib.hid (Below.next HB9.out hb)
          have HE10 := Lib.hid (HE9.out.next hb)
          have HO10 := Lib.hid (HO9.out.next hb)
          have HP10 := Lib.hid (HP9.out.next hb)
          have HS10 := Lib.hid (HS9.out.next hb)
          have HRA10 := Lib.hid (HRA9.out.next hb)
          clear HB9 HE9 HO9 HP9 HS9 HRA9 hltO_ qO0 qO1 qO2 qO3 qO4 qO5 qO6 qO7 qO8 qO9 qO10 hb
          rw [hx2] at hq2
          obtain ⟨Ao2, co2, ho, rfl⟩ := hq2
          rw [hSS] at ho ⊢
          have HT10 : Hid (Prs w10 Ao2 S.out) := Prs.of_own ho
          clear ho
          have hltRA_ := HRA10.out.lt
          have qRA0 := HRA10.out.c 0 _ rfl
          have qRA1 := HRA10.out.c 1 _ rfl
          have qRA2 := HRA10.out.c 2 _ rfl
          have qRA3 := HRA10.out.c 3 _ rfl
          have qRA4 := HRA10.out.c 4 _ rfl
          have qRA5 := HRA10.out.c 5 _ rfl
          have qRA6 := HRA10.out.c 6 _ rfl
          have hEV : ∀ W, (binOp .eql 26 (.agg #[.int .i64 u.k, .int .i64 u.n, .string (tx u.s), .int .i64 u.x, .int .i64 u.y]) (.agg #[.int .i64 u.k, .int .i64 u.n, .string (tx u.s), .int .i64 u.x, .int .i64 u.y])).run Tryz.prog W = .ok (.bool true) W := fun W => by
            have h := eql_va u u W
            rwa [show decide (u = u) = true from decide_eq_true rfl] at h
          go_wp2_with (fail)
          have HB11 := Lib.hid (Below.next HB10.out (box1 w10 (.cells #[.int .i64 u.k, .int .i64 u.n, .string (tx u.s), .int .i64 u.x, .int .i64 u.y, .slice Ao2 S.out.length co2, .int .i64 (m : Int)] 36)))
          have HE11 := Lib.hid (HE10.out.next (box1 w10 (.cells #[.int .i64 u.k, .int .i64 u.n, .string (tx u.s), .int .i64 u.x, .int .i64 u.y, .slice Ao2 S.out.length co2, .int .i64 (m : Int)] 36)))
          have HO11 := Lib.hid (HO10.out.next (box1 w10 (.cells #[.int .i64 u.k, .int .i64 u.n, .string (tx u.s), .int .i64 u.x, .int .i64 u.y, .slice Ao2 S.out.length co2, .int .i64 (m : Int)] 36)))
          have HP11 := Lib.hid (HP10.out.next (box1 w10 (.cells #[.int .i64 u.k, .int .i64 u.n, .string (tx u.s), .int .i64 u.x, .int .i64 u.y, .slice Ao2 S.out.length co2, .int .i64 (m : Int)] 36)))
          have HS11 := Lib.hid (HS10.out.next (box1 w10 (.cells #[.int .i64 u.k, .int .i64 u.n, .string (tx u.s), .int .i64 u.x, .int .i64 u.y, .slice Ao2 S.out.length co2, .int .i64 (m : Int)] 36)))
          have HRA11 := Lib.hid (HRA10.out.next (box1 w10 (.cells #[.int .i64 u.k, .int .i64 u.n, .string (tx u.s), .int .i64 u.x, .int .i64 u.y, .slice Ao2 S.out.length co2, .int .i64 (m : Int)] 36)))
          have HT11 := Lib.hid (HT10.out.next (box1 w10 (.cells #[.int .i64 u.k, .int .i64 u.n, .string (tx u.s), .int .i64 u.x, .int .i64 u.y, .slice Ao2 S.out.length co2, .int .i64 (m : Int)] 36)))
          have HRB11 : Hid (Blk (w10.alloc (.cells #[.int .i64 u.k, .int .i64 u.n, .string (tx u.s), .int .i64 u.x, .int .i64 u.y, .slice Ao2 S.out.length co2, .int .i64 (m : Int)] 36)) w10.heap.size [.int .i64 u.k, .int .i64 u.n, .string (tx u.s), .int .i64 u.x, .int .i64 u.y, .slice Ao2 S.out.length co2, .int .i64 (m : Int)]) := Blk.made w10 36 [.int .i64 u.k, .int .i64 u.n, .string (tx u.s), .int .i64 u.x, .int .i64 u.y, .slice Ao2 S.out.length co2, .int .i64 (m : Int)] rfl
          obtain ⟨w11, hw11⟩ : ∃ w11, w10.alloc (.cells #[.int .i64 u.k, .int .i64 u.n, .string (tx u.s), .int .i64 u.x, .int .i64 u.y, .slice Ao2 S.out.length co2, .int .i64 (m : Int)] 36) = w11 := ⟨_, rfl⟩
          rw [hw11] at HB11 HE11 HO11 HP11 HS11 HRA11 HT11 HRB11
          rw [hw11]
          obtain ⟨bRB, hbRB⟩ : ∃ b, w10.heap.size = b := ⟨_, rfl⟩
          rw [hbRB] at HRB11
          simp only [hbRB]
          clear HB10 HE10 HO10 HP10 HS10 HRA10 HT10 hltRA_ qRA0 qRA1 qRA2 qRA3 qRA4 qRA5 qRA6 hw11 hbRB
          refine (same_pairs S.out Ao Ao2 co co2 _ HS11.out HT11.out (by omega)).mono ?_
          rintro e w12 ⟨rfl, hb⟩
          have HB12 := Lib.hid (Below.next HB11.out hb)
          have HE12 := Lib.hid (HE11.out.next hb)
          have HO12 := Lib.hid (HO11.out.next hb)
          have HP12 := Lib.hid (HP11.out.next hb)
          have HS12 := Lib.hid (HS11.out.next hb)
          have HRA12 := Lib.hid (HRA11.out.next hb)
          have HT12 := Lib.hid (HT11.out.next hb)
          have HRB12 := Lib.hid (HRB11.out.next hb)
          clear HB11 HE11 HO11 HP11 HS11 HRA11 HT11 HRB11  hb
          go_wp2_with (fail)
          go_ret
          exact ⟨by simp, HB12.out⟩
  · skip
    cases n1
    · skip
      cases n2
      · skip
        have hltE_ := HE6.out.lt
        have qE0 := HE6.out.c 0 _ rfl
        have qE1 := HE6.out.c 1 _ rfl
        have qE2 := HE6.out.c 2 _ rfl
        have qE3 := HE6.out.c 3 _ rfl
        have qE4 := HE6.out.c 4 _ rfl
        have qE5 := HE6.out.c 5 _ rfl
        have qE6 := HE6.out.c 6 _ rfl
        have qE7 := HE6.out.c 7 _ rfl
        have qE8 := HE6.out.c 8 _ rfl
        have qE9 := HE6.out.c 9 _ rfl
        have qE10 := HE6.out.c 10 _ rfl
        have hltO_ := HO6.out.lt
        have qO0 := HO6.out.c 0 _ rfl
        have qO1 := HO6.out.c 1 _ rfl
        have qO2 := HO6.out.c 2 _ rfl
        have qO3 := HO6.out.c 3 _ rfl
        have qO4 := HO6.out.c 4 _ rfl
        have qO5 := HO6.out.c 5 _ rfl
        have qO6 := HO6.out.c 6 _ rfl
        have qO7 := HO6.out.c 7 _ rfl
        have qO8 := HO6.out.c 8 _ rfl
        have qO9 := HO6.out.c 9 _ rfl
        have qO10 := HO6.out.c 10 _ rfl
        have z0 := HO6.out.f 0 _ rfl
        have z1 := HO6.out.f 1 _ rfl
        have z2 := HO6.out.f 2 _ rfl
        have z3 := HO6.out.f 3 _ rfl
        have z4 := HO6.out.f 4 _ rfl
        have z5 := HO6.out.f 5 _ rfl
        have z6 := HO6.out.f 6 _ rfl
        have z7 := HO6.out.f 7 _ rfl
        have z8 := HO6.out.f 8 _ rfl
        have z9 := HO6.out.f 9 _ rfl
        have z10 := HO6.out.f 10 _ rfl
        go_wp2_with (fail)
        have hb9 := (below_puts (B := w.heap.size + 1) [.string (tx k)] 0 HB6.out (by omega))
        have he9 := (blk_puts_other (C := w.heap.size + 1) (by omega) [.string (tx k)] 0 HE6.out)
        have ho9 := (blk_puts [.string (tx k)] 0 HO6.out (by simp))
        have hp9 := (nds_puts (C := w.heap.size + 1) [.string (tx k)] 0 HP6.out HPF.out)
        change Blk _ _ [.string (tx k), .int .i64 v2.k, .int .i64 v2.n, .string (tx v2.s), .int .i64 v2.x, .int .i64 v2.y, .int .i64 a2.k, .int .i64 a2.n, .string (tx a2.s), .int .i64 a2.x, .int .i64 a2.y] at ho9
        change Calls _ _ _ ((putL w6 (w.heap.size + 1) 0 [.string (tx k)]).alloc (.cells #[.bool true, .bool false, .bool false, .bool n3, .bool n4] 52)) _
        obtain ⟨x9, hx9⟩ : ∃ x9, (putL w6 (w.heap.size + 1) 0 [.string (tx k)]) = x9 := ⟨_, rfl⟩
        rw [hx9] at hb9 he9 ho9 hp9 ⊢
        clear hx9
        have HB7 := Lib.hid (Below.next hb9 (box1 x9 (.cells #[.bool true, .bool false, .bool false, .bool n3, .bool n4] 52))); have HE7 := Lib.hid (he9.old (.cells #[.bool true, .bool false, .bool false, .bool n3, .bool n4] 52)); have HO7 := Lib.hid (ho9.old (.cells #[.bool true, .bool false, .bool false, .bool n3, .bool n4] 52)); have HP7 := Lib.hid (hp9.next (box1 x9 (.cells #[.bool true, .bool false, .bool false, .bool n3, .bool n4] 52)))
        obtain ⟨w7, hw7⟩ : ∃ w7, x9.alloc (.cells #[.bool true, .bool false, .bool false, .bool n3, .bool n4] 52) = w7 := ⟨_, rfl⟩
        rw [hw7] at HB7 HE7 HO7 HP7 ⊢
        clear HB6 HE6 HO6 HP6 hltE_ qE0 qE1 qE2 qE3 qE4 qE5 qE6 qE7 qE8 qE9 qE10 hltO_ qO0 qO1 qO2 qO3 qO4 qO5 qO6 qO7 qO8 qO9 qO10 z0 z1 z2 z3 z4 z5 z6 z7 z8 z9 z10 hb9 he9 ho9 hp9 hw7
        have htwo := names_two (HALI.out k v2 a2 (fun _ => rfl) (fun h => by cases h) (fun h => by cases h)) ((q : Int) % 3000)
        rcases htwo with htwo | ⟨x, hx1, hx2⟩ | ⟨u, S, S2, m, hx1, hx2, hSS⟩
        · skip
          have hltE_ := HE7.out.lt
          have qE0 := HE7.out.c 0 _ rfl
          have qE1 := HE7.out.c 1 _ rfl
          have qE2 := HE7.out.c 2 _ rfl
          have qE3 := HE7.out.c 3 _ rfl
          have qE4 := HE7.out.c 4 _ rfl
          have qE5 := HE7.out.c 5 _ rfl
          have qE6 := HE7.out.c 6 _ rfl
          have qE7 := HE7.out.c 7 _ rfl
          have qE8 := HE7.out.c 8 _ rfl
          have qE9 := HE7.out.c 9 _ rfl
          have qE10 := HE7.out.c 10 _ rfl
          refine (HRU.out k v a ((q : Int) % 3000) _ HB7.out Ap cp HP7.out (by omega)).mono ?_
          rintro e w8 ⟨hb, hq1⟩
          have HB8 := Lib.hid (Below.next HB7.out hb)
          have HE8 := Lib.hid (HE7.out.next hb)
          have HO8 := Lib.hid (HO7.out.next hb)
          have HP8 := Lib.hid (HP7.out.next hb)
          clear HB7 HE7 HO7 HP7 hltE_ qE0 qE1 qE2 qE3 qE4 qE5 qE6 qE7 qE8 qE9 qE10 hb
          obtain ⟨X1, hX1⟩ : ∃ X, rnX l k v a ((q : Int) % 3000) = X := ⟨_, rfl⟩
          rw [hX1] at hq1 htwo
          obtain ⟨X2, hX2⟩ : ∃ X, rnX l k v2 a2 ((q : Int) % 3000) = X := ⟨_, rfl⟩
          rw [hX2] at htwo
          clear hX1
          cases X1 with
          | er y1 =>
            obtain ⟨hy1, rfl⟩ := hq1
            have hy2 : (y1 == 0) = false := by simpa using hy1
            have hltO_ := HO8.out.lt
            have qO0 := HO8.out.c 0 _ rfl
            have qO1 := HO8.out.c 1 _ rfl
            have qO2 := HO8.out.c 2 _ rfl
            have qO3 := HO8.out.c 3 _ rfl
            have qO4 := HO8.out.c 4 _ rfl
            have qO5 := HO8.out.c 5 _ rfl
            have qO6 := HO8.out.c 6 _ rfl
            have qO7 := HO8.out.c 7 _ rfl
            have qO8 := HO8.out.c 8 _ rfl
            have qO9 := HO8.out.c 9 _ rfl
            have qO10 := HO8.out.c 10 _ rfl
            go_wp2_with (fail)
            have HB9 := Lib.hid (Below.next HB8.out (box1 w8 (.cells #[.int .i64 0, .int .i64 0, .string ⟨#[]⟩, .int .i64 0, .int .i64 0, .slice none 0 0, .int .i64 0] 36)))
            have HE9 := Lib.hid (HE8.out.next (box1 w8 (.cells #[.int .i64 0, .int .i64 0, .string ⟨#[]⟩, .int .i64 0, .int .i64 0, .slice none 0 0, .int .i64 0] 36)))
            have HO9 := Lib.hid (HO8.out.next (box1 w8 (.cells #[.int .i64 0, .int .i64 0, .string ⟨#[]⟩, .int .i64 0, .int .i64 0, .slice none 0 0, .int .i64 0] 36)))
            have HP9 := Lib.hid (HP8.out.next (box1 w8 (.cells #[.int .i64 0, .int .i64 0, .string ⟨#[]⟩, .int .i64 0, .int .i64 0, .slice none 0 0, .int .i64 0] 36)))
            have HRA9 : Hid (Blk (w8.alloc (.cells #[.int .i64 0, .int .i64 0, .string ⟨#[]⟩, .int .i64 0, .int .i64 0, .slice none 0 0, .int .i64 0] 36)) w8.heap.size [.int .i64 0, .int .i64 0, .string ⟨#[]⟩, .int .i64 0, .int .i64 0, .slice none 0 0, .int .i64 0]) := Blk.made w8 36 [.int .i64 0, .int .i64 0, .string ⟨#[]⟩, .int .i64 0, .int .i64 0, .slice none 0 0, .int .i64 0] rfl
            obtain ⟨w9, hw9⟩ : ∃ w9, w8.alloc (.cells #[.int .i64 0, .int .i64 0, .string ⟨#[]⟩, .int .i64 0, .int .i64 0, .slice none 0 0, .int .i64 0] 36) = w9 := ⟨_, rfl⟩
            rw [hw9] at HB9 HE9 HO9 HP9 HRA9
            rw [hw9]
            obtain ⟨bRA, hbRA⟩ : ∃ b, w8.heap.size = b := ⟨_, rfl⟩
            rw [hbRA] at HRA9
            simp only [hbRA]
            clear HB8 HE8 HO8 HP8 hltO_ qO0 qO1 qO2 qO3 qO4 qO5 qO6 qO7 qO8 qO9 qO10 hw9 hbRA
            have hltO_ := HO9.out.lt
            have qO0 := HO9.out.c 0 _ rfl
            have qO1 := HO9.out.c 1 _ rfl
            have qO2 := HO9.out.c 2 _ rfl
            have qO3 := HO9.out.c 3 _ rfl
            have qO4 := HO9.out.c 4 _ rfl
            have qO5 := HO9.out.c 5 _ rfl
            have qO6 := HO9.out.c 6 _ rfl
            have qO7 := HO9.out.c 7 _ rfl
            have qO8 := HO9.out.c 8 _ rfl
            have qO9 := HO9.out.c 9 _ rfl
            have qO10 := HO9.out.c 10 _ rfl
            refine (HRU.out k v2 a2 ((q : Int) % 3000) _ HB9.out Ap cp HP9.out (by omega)).mono ?_
            rintro e w10 ⟨hb, hq2⟩
            have HB10 := Lib.hid (Below.next HB9.out hb)
            have HE10 := Lib.hid (HE9.out.next hb)
            have HO10 := Lib.hid (HO9.out.next hb)
            have HP10 := Lib.hid (HP9.out.next hb)
            have HRA10 := Lib.hid (HRA9.out.next hb)
            clear HB9 HE9 HO9 HP9 HRA9 hltO_ qO0 qO1 qO2 qO3 qO4 qO5 qO6 qO7 qO8 qO9 qO10 hb
            rw [hX2] at hq2
            clear hX2
            cases X2 with
            | er y2 =>
              obtain ⟨_, rfl⟩ := hq2
              rcases htwo with h | h <;> injection h with h <;> subst h
              all_goals
                go_wp2_with (fail)
                all_goals
                  go_ret
                  exact ⟨by simp, Below.next HB10.out (box1 _ _)⟩
            | ok u2 S2 m2 =>
              obtain ⟨Ao2, co2, _, rfl⟩ := hq2
              obtain rfl : y1 = 1 := by
                rcases htwo with h | h
                · injection h
                · cases h
              go_wp2_with (fail)
              go_ret
              exact ⟨by simp, Below.next HB10.out (box1 _ _)⟩
          | ok u1 S1 m1 =>
            obtain ⟨Ao, co, _, rfl⟩ := hq1
            have hltO_ := HO8.out.lt
            have qO0 := HO8.out.c 0 _ rfl
            have qO1 := HO8.out.c 1 _ rfl
            have qO2 := HO8.out.c 2 _ rfl
            have qO3 := HO8.out.c 3 _ rfl
            have qO4 := HO8.out.c 4 _ rfl
            have qO5 := HO8.out.c 5 _ rfl
            have qO6 := HO8.out.c 6 _ rfl
            have qO7 := HO8.out.c 7 _ rfl
            have qO8 := HO8.out.c 8 _ rfl
            have qO9 := HO8.out.c 9 _ rfl
            have qO10 := HO8.out.c 10 _ rfl
            go_wp2_with (fail)
            have HB9 := Lib.hid (Below.next HB8.out (box1 w8 (.cells #[.int .i64 u1.k, .int .i64 u1.n, .string (tx u1.s), .int .i64 u1.x, .int .i64 u1.y, .slice Ao S1.out.length co, .int .i64 (m1 : Int)] 36)))
            have HE9 := Lib.hid (HE8.out.next (box1 w8 (.cells #[.int .i64 u1.k, .int .i64 u1.n, .string (tx u1.s), .int .i64 u1.x, .int .i64 u1.y, .slice Ao S1.out.length co, .int .i64 (m1 : Int)] 36)))
            have HO9 := Lib.hid (HO8.out.next (box1 w8 (.cells #[.int .i64 u1.k, .int .i64 u1.n, .string (tx u1.s), .int .i64 u1.x, .int .i64 u1.y, .slice Ao S1.out.length co, .int .i64 (m1 : Int)] 36)))
            have HP9 := Lib.hid (HP8.out.next (box1 w8 (.cells #[.int .i64 u1.k, .int .i64 u1.n, .string (tx u1.s), .int .i64 u1.x, .int .i64 u1.y, .slice Ao S1.out.length co, .int .i64 (m1 : Int)] 36)))
            have HRA9 : Hid (Blk (w8.alloc (.cells #[.int .i64 u1.k, .int .i64 u1.n, .string (tx u1.s), .int .i64 u1.x, .int .i64 u1.y, .slice Ao S1.out.length co, .int .i64 (m1 : Int)] 36)) w8.heap.size [.int .i64 u1.k, .int .i64 u1.n, .string (tx u1.s), .int .i64 u1.x, .int .i64 u1.y, .slice Ao S1.out.length co, .int .i64 (m1 : Int)]) := Blk.made w8 36 [.int .i64 u1.k, .int .i64 u1.n, .string (tx u1.s), .int .i64 u1.x, .int .i64 u1.y, .slice Ao S1.out.length co, .int .i64 (m1 : Int)] rfl
            obtain ⟨w9, hw9⟩ : ∃ w9, w8.alloc (.cells #[.int .i64 u1.k, .int .i64 u1.n, .string (tx u1.s), .int .i64 u1.x, .int .i64 u1.y, .slice Ao S1.out.length co, .int .i64 (m1 : Int)] 36) = w9 := ⟨_, rfl⟩
            rw [hw9] at HB9 HE9 HO9 HP9 HRA9
            rw [hw9]
            obtain ⟨bRA, hbRA⟩ : ∃ b, w8.heap.size = b := ⟨_, rfl⟩
            rw [hbRA] at HRA9
            simp only [hbRA]
            clear HB8 HE8 HO8 HP8 hltO_ qO0 qO1 qO2 qO3 qO4 qO5 qO6 qO7 qO8 qO9 qO10 hw9 hbRA
            have hltO_ := HO9.out.lt
            have qO0 := HO9.out.c 0 _ rfl
            have qO1 := HO9.out.c 1 _ rfl
            have qO2 := HO9.out.c 2 _ rfl
            have qO3 := HO9.out.c 3 _ rfl
            have qO4 := HO9.out.c 4 _ rfl
            have qO5 := HO9.out.c 5 _ rfl
            have qO6 := HO9.out.c 6 _ rfl
            have qO7 := HO9.out.c 7 _ rfl
            have qO8 := HO9.out.c 8 _ rfl
            have qO9 := HO9.out.c 9 _ rfl
            have qO10 := HO9.out.c 10 _ rfl
            refine (HRU.out k v2 a2 ((q : Int) % 3000) _ HB9.out Ap cp HP9.out (by omega)).mono ?_
            rintro e w10 ⟨hb, hq2⟩
            have HB10 := Lib.hid (Below.next HB9.out hb)
            have HE10 := Lib.hid (HE9.out.next hb)
            have HO10 := Lib.hid (HO9.out.next hb)
            have HP10 := Lib.hid (HP9.out.next hb)
            have HRA10 := Lib.hid (HRA9.out.next hb)
            clear HB9 HE9 HO9 HP9 HRA9 hltO_ qO0 qO1 qO2 qO3 qO4 qO5 qO6 qO7 qO8 qO9 qO10 hb
            rw [hX2] at hq2
            clear hX2
            cases X2 with
            | er y2 =>
              obtain ⟨_, rfl⟩ := hq2
              obtain rfl : y2 = 1 := by
                rcases htwo with h | h
                · cases h
                · injection h
              go_wp2_with (fail)
              go_ret
              exact ⟨by simp, Below.next HB10.out (box1 _ _)⟩
            | ok u2 S2 m2 =>
              obtain ⟨Ao2, co2, _, rfl⟩ := hq2
              rcases htwo with h | h <;> cases h
        · skip
          have hltE_ := HE7.out.lt
          have qE0 := HE7.out.c 0 _ rfl
          have qE1 := HE7.out.c 1 _ rfl
          have qE2 := HE7.out.c 2 _ rfl
          have qE3 := HE7.out.c 3 _ rfl
          have qE4 := HE7.out.c 4 _ rfl
          have qE5 := HE7.out.c 5 _ rfl
          have qE6 := HE7.out.c 6 _ rfl
          have qE7 := HE7.out.c 7 _ rfl
          have qE8 := HE7.out.c 8 _ rfl
          have qE9 := HE7.out.c 9 _ rfl
          have qE10 := HE7.out.c 10 _ rfl
          refine (HRU.out k v a ((q : Int) % 3000) _ HB7.out Ap cp HP7.out (by omega)).mono ?_
          rintro e w8 ⟨hb, hq1⟩
          have HB8 := Lib.hid (Below.next HB7.out hb)
          have HE8 := Lib.hid (HE7.out.next hb)
          have HO8 := Lib.hid (HO7.out.next hb)
          have HP8 := Lib.hid (HP7.out.next hb)
          clear HB7 HE7 HO7 HP7 hltE_ qE0 qE1 qE2 qE3 qE4 qE5 qE6 qE7 qE8 qE9 qE10 hb
          rw [hx1] at hq1
          obtain ⟨hy1, rfl⟩ := hq1
          have hltO_ := HO8.out.lt
          have qO0 := HO8.out.c 0 _ rfl
          have qO1 := HO8.out.c 1 _ rfl
          have qO2 := HO8.out.c 2 _ rfl
          have qO3 := HO8.out.c 3 _ rfl
          have qO4 := HO8.out.c 4 _ rfl
          have qO5 := HO8.out.c 5 _ rfl
          have qO6 := HO8.out.c 6 _ rfl
          have qO7 := HO8.out.c 7 _ rfl
          have qO8 := HO8.out.c 8 _ rfl
          have qO9 := HO8.out.c 9 _ rfl
          have qO10 := HO8.out.c 10 _ rfl
          go_wp2_with (fail)
          have HB9 := Lib.hid (Below.next HB8.out (box1 w8 (.cells #[.int .i64 0, .int .i64 0, .string ⟨#[]⟩, .int .i64 0, .int .i64 0, .slice none 0 0, .int .i64 0] 36)))
          have HE9 := Lib.hid (HE8.out.next (box1 w8 (.cells #[.int .i64 0, .int .i64 0, .string ⟨#[]⟩, .int .i64 0, .int .i64 0, .slice none 0 0, .int .i64 0] 36)))
          have HO9 := Lib.hid (HO8.out.next (box1 w8 (.cells #[.int .i64 0, .int .i64 0, .string ⟨#[]⟩, .int .i64 0, .int .i64 0, .slice none 0 0, .int .i64 0] 36)))
          have HP9 := Lib.hid (HP8.out.next (box1 w8 (.cells #[.int .i64 0, .int .i64 0, .string ⟨#[]⟩, .int .i64 0, .int .i64 0, .slice none 0 0, .int .i64 0] 36)))
          have HRA9 : Hid (Blk (w8.alloc (.cells #[.int .i64 0, .int .i64 0, .string ⟨#[]⟩, .int .i64 0, .int .i64 0, .slice none 0 0, .int .i64 0] 36)) w8.heap.size [.int .i64 0, .int .i64 0, .string ⟨#[]⟩, .int .i64 0, .int .i64 0, .slice none 0 0, .int .i64 0]) := Blk.made w8 36 [.int .i64 0, .int .i64 0, .string ⟨#[]⟩, .int .i64 0, .int .i64 0, .slice none 0 0, .int .i64 0] rfl
          obtain ⟨w9, hw9⟩ : ∃ w9, w8.alloc (.cells #[.int .i64 0, .int .i64 0, .string ⟨#[]⟩, .int .i64 0, .int .i64 0, .slice none 0 0, .int .i64 0] 36) = w9 := ⟨_, rfl⟩
          rw [hw9] at HB9 HE9 HO9 HP9 HRA9
          rw [hw9]
          obtain ⟨bRA, hbRA⟩ : ∃ b, w8.heap.size = b := ⟨_, rfl⟩
          rw [hbRA] at HRA9
          simp only [hbRA]
          clear HB8 HE8 HO8 HP8 hltO_ qO0 qO1 qO2 qO3 qO4 qO5 qO6 qO7 qO8 qO9 qO10 hw9 hbRA
          have hltO_ := HO9.out.lt
          have qO0 := HO9.out.c 0 _ rfl
          have qO1 := HO9.out.c 1 _ rfl
          have qO2 := HO9.out.c 2 _ rfl
          have qO3 := HO9.out.c 3 _ rfl
          have qO4 := HO9.out.c 4 _ rfl
          have qO5 := HO9.out.c 5 _ rfl
          have qO6 := HO9.out.c 6 _ rfl
          have qO7 := HO9.out.c 7 _ rfl
          have qO8 := HO9.out.c 8 _ rfl
          have qO9 := HO9.out.c 9 _ rfl
          have qO10 := HO9.out.c 10 _ rfl
          refine (HRU.out k v2 a2 ((q : Int) % 3000) _ HB9.out Ap cp HP9.out (by omega)).mono ?_
          rintro e w10 ⟨hb, hq2⟩
          have HB10 := Lib.hid (Below.next HB9.out hb)
          have HE10 := Lib.hid (HE9.out.next hb)
          have HO10 := Lib.hid (HO9.out.next hb)
          have HP10 := Lib.hid (HP9.out.next hb)
          have HRA10 := Lib.hid (HRA9.out.next hb)
          clear HB9 HE9 HO9 HP9 HRA9 hltO_ qO0 qO1 qO2 qO3 qO4 qO5 qO6 qO7 qO8 qO9 qO10 hb
          rw [hx2] at hq2
          obtain ⟨_, rfl⟩ := hq2
          have hltRA_ := HRA10.out.lt
          have qRA0 := HRA10.out.c 0 _ rfl
          have qRA1 := HRA10.out.c 1 _ rfl
          have qRA2 := HRA10.out.c 2 _ rfl
          have qRA3 := HRA10.out.c 3 _ rfl
          have qRA4 := HRA10.out.c 4 _ rfl
          have qRA5 := HRA10.out.c 5 _ rfl
          have qRA6 := HRA10.out.c 6 _ rfl
          have hEV : ∀ W, (binOp .eql 26 (.agg #[.int .i64 vz.k, .int .i64 vz.n, .string (tx vz.s), .int .i64 vz.x, .int .i64 vz.y]) (.agg #[.int .i64 vz.k, .int .i64 vz.n, .string (tx vz.s), .int .i64 vz.x, .int .i64 vz.y])).run Tryz.prog W = .ok (.bool true) W := fun W => eql_va vz vz W
          change ∀ W, (binOp .eql 26 (.agg #[.int .i64 0, .int .i64 0, .string ⟨#[]⟩, .int .i64 0, .int .i64 0]) (.agg #[.int .i64 0, .int .i64 0, .string ⟨#[]⟩, .int .i64 0, .int .i64 0])).run Tryz.prog W = .ok (.bool true) W at hEV
          by_cases hy3 : x = 1
          · subst hy3
            go_wp2_with (fail)
            go_ret
            exact ⟨by simp, Below.next HB10.out (box1 _ _)⟩
          · have hy4 : (x == 1) = false := by simpa using hy3
            go_wp2_with (fail)
            have HB11 := Lib.hid (Below.next HB10.out (box1 w10 (.cells #[.int .i64 0, .int .i64 0, .string ⟨#[]⟩, .int .i64 0, .int .i64 0, .slice none 0 0, .int .i64 0] 36)))
            have HE11 := Lib.hid (HE10.out.next (box1 w10 (.cells #[.int .i64 0, .int .i64 0, .string ⟨#[]⟩, .int .i64 0, .int .i64 0, .slice none 0 0, .int .i64 0] 36)))
            have HO11 := Lib.hid (HO10.out.next (box1 w10 (.cells #[.int .i64 0, .int .i64 0, .string ⟨#[]⟩, .int .i64 0, .int .i64 0, .slice none 0 0, .int .i64 0] 36)))
            have HP11 := Lib.hid (HP10.out.next (box1 w10 (.cells #[.int .i64 0, .int .i64 0, .string ⟨#[]⟩, .int .i64 0, .int .i64 0, .slice none 0 0, .int .i64 0] 36)))
            have HRA11 := Lib.hid (HRA10.out.next (box1 w10 (.cells #[.int .i64 0, .int .i64 0, .string ⟨#[]⟩, .int .i64 0, .int .i64 0, .slice none 0 0, .int .i64 0] 36)))
            have HRB11 : Hid (Blk (w10.alloc (.cells #[.int .i64 0, .int .i64 0, .string ⟨#[]⟩, .int .i64 0, .int .i64 0, .slice none 0 0, .int .i64 0] 36)) w10.heap.size [.int .i64 0, .int .i64 0, .string ⟨#[]⟩, .int .i64 0, .int .i64 0, .slice none 0 0, .int .i64 0]) := Blk.made w10 36 [.int .i64 0, .int .i64 0, .string ⟨#[]⟩, .int .i64 0, .int .i64 0, .slice none 0 0, .int .i64 0] rfl
            obtain ⟨w11, hw11⟩ : ∃ w11, w10.alloc (.cells #[.int .i64 0, .int .i64 0, .string ⟨#[]⟩, .int .i64 0, .int .i64 0, .slice none 0 0, .int .i64 0] 36) = w11 := ⟨_, rfl⟩
            rw [hw11] at HB11 HE11 HO11 HP11 HRA11 HRB11
            rw [hw11]
            obtain ⟨bRB, hbRB⟩ : ∃ b, w10.heap.size = b := ⟨_, rfl⟩
            rw [hbRB] at HRB11
            simp only [hbRB]
            clear HB10 HE10 HO10 HP10 HRA10 hltRA_ qRA0 qRA1 qRA2 qRA3 qRA4 qRA5 qRA6 hw11 hbRB
            refine (same_pairs [] none none 0 0 _ (fun h => absurd h (by decide)) (fun h => absurd h (by decide)) (by decide)).mono ?_
            rintro e w12 ⟨rfl, hb⟩
            have HB12 := Lib.hid (Below.next HB11.out hb)
            have HE12 := Lib.hid (HE11.out.next hb)
            have HO12 := Lib.hid (HO11.out.next hb)
            have HP12 := Lib.hid (HP11.out.next hb)
            have HRA12 := Lib.hid (HRA11.out.next hb)
            have HRB12 := Lib.hid (HRB11.out.next hb)
            clear HB11 HE11 HO11 HP11 HRA11 HRB11  hb
            go_wp2_with (fail)
            go_ret
            exact ⟨by simp, HB12.out⟩
        · skip
          have hSo := (rnX_left hx1).2.2.1
          have hltE_ := HE7.out.lt
          have qE0 := HE7.out.c 0 _ rfl
          have qE1 := HE7.out.c 1 _ rfl
          have qE2 := HE7.out.c 2 _ rfl
          have qE3 := HE7.out.c 3 _ rfl
          have qE4 := HE7.out.c 4 _ rfl
          have qE5 := HE7.out.c 5 _ rfl
          have qE6 := HE7.out.c 6 _ rfl
          have qE7 := HE7.out.c 7 _ rfl
          have qE8 := HE7.out.c 8 _ rfl
          have qE9 := HE7.out.c 9 _ rfl
          have qE10 := HE7.out.c 10 _ rfl
          refine (HRU.out k v a ((q : Int) % 3000) _ HB7.out Ap cp HP7.out (by omega)).mono ?_
          rintro e w8 ⟨hb, hq1⟩
          have HB8 := Lib.hid (Below.next HB7.out hb)
          have HE8 := Lib.hid (HE7.out.next hb)
          have HO8 := Lib.hid (HO7.out.next hb)
          have HP8 := Lib.hid (HP7.out.next hb)
          clear HB7 HE7 HO7 HP7 hltE_ qE0 qE1 qE2 qE3 qE4 qE5 qE6 qE7 qE8 qE9 qE10 hb
          rw [hx1] at hq1
          obtain ⟨Ao, co, ho, rfl⟩ := hq1
          have HS8 : Hid (Prs w8 Ao S.out) := Prs.of_own ho
          clear ho
          have hltO_ := HO8.out.lt
          have qO0 := HO8.out.c 0 _ rfl
          have qO1 := HO8.out.c 1 _ rfl
          have qO2 := HO8.out.c 2 _ rfl
          have qO3 := HO8.out.c 3 _ rfl
          have qO4 := HO8.out.c 4 _ rfl
          have qO5 := HO8.out.c 5 _ rfl
          have qO6 := HO8.out.c 6 _ rfl
          have qO7 := HO8.out.c 7 _ rfl
          have qO8 := HO8.out.c 8 _ rfl
          have qO9 := HO8.out.c 9 _ rfl
          have qO10 := HO8.out.c 10 _ rfl
          go_wp2_with (fail)
          have HB9 := Lib.hid (Below.next HB8.out (box1 w8 (.cells #[.int .i64 u.k, .int .i64 u.n, .string (tx u.s), .int .i64 u.x, .int .i64 u.y, .slice Ao S.out.length co, .int .i64 (m : Int)] 36)))
          have HE9 := Lib.hid (HE8.out.next (box1 w8 (.cells #[.int .i64 u.k, .int .i64 u.n, .string (tx u.s), .int .i64 u.x, .int .i64 u.y, .slice Ao S.out.length co, .int .i64 (m : Int)] 36)))
          have HO9 := Lib.hid (HO8.out.next (box1 w8 (.cells #[.int .i64 u.k, .int .i64 u.n, .string (tx u.s), .int .i64 u.x, .int .i64 u.y, .slice Ao S.out.length co, .int .i64 (m : Int)] 36)))
          have HP9 := Lib.hid (HP8.out.next (box1 w8 (.cells #[.int .i64 u.k, .int .i64 u.n, .string (tx u.s), .int .i64 u.x, .int .i64 u.y, .slice Ao S.out.length co, .int .i64 (m : Int)] 36)))
          have HS9 := Lib.hid (HS8.out.next (box1 w8 (.cells #[.int .i64 u.k, .int .i64 u.n, .string (tx u.s), .int .i64 u.x, .int .i64 u.y, .slice Ao S.out.length co, .int .i64 (m : Int)] 36)))
          have HRA9 : Hid (Blk (w8.alloc (.cells #[.int .i64 u.k, .int .i64 u.n, .string (tx u.s), .int .i64 u.x, .int .i64 u.y, .slice Ao S.out.length co, .int .i64 (m : Int)] 36)) w8.heap.size [.int .i64 u.k, .int .i64 u.n, .string (tx u.s), .int .i64 u.x, .int .i64 u.y, .slice Ao S.out.length co, .int .i64 (m : Int)]) := Blk.made w8 36 [.int .i64 u.k, .int .i64 u.n, .string (tx u.s), .int .i64 u.x, .int .i64 u.y, .slice Ao S.out.length co, .int .i64 (m : Int)] rfl
          obtain ⟨w9, hw9⟩ : ∃ w9, w8.alloc (.cells #[.int .i64 u.k, .int .i64 u.n, .string (tx u.s), .int .i64 u.x, .int .i64 u.y, .slice Ao S.out.length co, .int .i64 (m : Int)] 36) = w9 := ⟨_, rfl⟩
          rw [hw9] at HB9 HE9 HO9 HP9 HS9 HRA9
          rw [hw9]
          obtain ⟨bRA, hbRA⟩ : ∃ b, w8.heap.size = b := ⟨_, rfl⟩
          rw [hbRA] at HRA9
          simp only [hbRA]
          clear HB8 HE8 HO8 HP8 HS8 hltO_ qO0 qO1 qO2 qO3 qO4 qO5 qO6 qO7 qO8 qO9 qO10 hw9 hbRA
          have hltO_ := HO9.out.lt
          have qO0 := HO9.out.c 0 _ rfl
          have qO1 := HO9.out.c 1 _ rfl
          have qO2 := HO9.out.c 2 _ rfl
          have qO3 := HO9.out.c 3 _ rfl
          have qO4 := HO9.out.c 4 _ rfl
          have qO5 := HO9.out.c 5 _ rfl
          have qO6 := HO9.out.c 6 _ rfl
          have qO7 := HO9.out.c 7 _ rfl
          have qO8 := HO9.out.c 8 _ rfl
          have qO9 := HO9.out.c 9 _ rfl
          have qO10 := HO9.out.c 10 _ rfl
          refine (HRU.out k v2 a2 ((q : Int) % 3000) _ HB9.out Ap cp HP9.out (by omega)).mono ?_
          rintro e w10 ⟨hb, hq2⟩
          have HB10 := Lib.hid (Below.next HB9.out hb)
          have HE10 := Lib.hid (HE9.out.next hb)
          have HO10 := Lib.hid (HO9.out.next hb)
          have HP10 := Lib.hid (HP9.out.next hb)
          have HS10 := Lib.hid (HS9.out.next hb)
          have HRA10 := Lib.hid (HRA9.out.next hb)
          clear HB9 HE9 HO9 HP9 HS9 HRA9 hltO_ qO0 qO1 qO2 qO3 qO4 qO5 qO6 qO7 qO8 qO9 qO10 hb
          rw [hx2] at hq2
          obtain ⟨Ao2, co2, ho, rfl⟩ := hq2
          rw [hSS] at ho ⊢
          have HT10 : Hid (Prs w10 Ao2 S.out) := Prs.of_own ho
          clear ho
          have hltRA_ := HRA10.out.lt
          have qRA0 := HRA10.out.c 0 _ rfl
          have qRA1 := HRA10.out.c 1 _ rfl
          have qRA2 := HRA10.out.c 2 _ rfl
          have qRA3 := HRA10.out.c 3 _ rfl
          have qRA4 := HRA10.out.c 4 _ rfl
          have qRA5 := HRA10.out.c 5 _ rfl
          have qRA6 := HRA10.out.c 6 _ rfl
          have hEV : ∀ W, (binOp .eql 26 (.agg #[.int .i64 u.k, .int .i64 u.n, .string (tx u.s), .int .i64 u.x, .int .i64 u.y]) (.agg #[.int .i64 u.k, .int .i64 u.n, .string (tx u.s), .int .i64 u.x, .int .i64 u.y])).run Tryz.prog W = .ok (.bool true) W := fun W => by
            have h := eql_va u u W
            rwa [show decide (u = u) = true from decide_eq_true rfl] at h
          go_wp2_with (fail)
          have HB11 := Lib.hid (Below.next HB10.out (box1 w10 (.cells #[.int .i64 u.k, .int .i64 u.n, .string (tx u.s), .int .i64 u.x, .int .i64 u.y, .slice Ao2 S.out.length co2, .int .i64 (m : Int)] 36)))
          have HE11 := Lib.hid (HE10.out.next (box1 w10 (.cells #[.int .i64 u.k, .int .i64 u.n, .string (tx u.s), .int .i64 u.x, .int .i64 u.y, .slice Ao2 S.out.length co2, .int .i64 (m : Int)] 36)))
          have HO11 := Lib.hid (HO10.out.next (box1 w10 (.cells #[.int .i64 u.k, .int .i64 u.n, .string (tx u.s), .int .i64 u.x, .int .i64 u.y, .slice Ao2 S.out.length co2, .int .i64 (m : Int)] 36)))
          have HP11 := Lib.hid (HP10.out.next (box1 w10 (.cells #[.int .i64 u.k, .int .i64 u.n, .string (tx u.s), .int .i64 u.x, .int .i64 u.y, .slice Ao2 S.out.length co2, .int .i64 (m : Int)] 36)))
          have HS11 := Lib.hid (HS10.out.next (box1 w10 (.cells #[.int .i64 u.k, .int .i64 u.n, .string (tx u.s), .int .i64 u.x, .int .i64 u.y, .slice Ao2 S.out.length co2, .int .i64 (m : Int)] 36)))
          have HRA11 := Lib.hid (HRA10.out.next (box1 w10 (.cells #[.int .i64 u.k, .int .i64 u.n, .string (tx u.s), .int .i64 u.x, .int .i64 u.y, .slice Ao2 S.out.length co2, .int .i64 (m : Int)] 36)))
          have HT11 := Lib.hid (HT10.out.next (box1 w10 (.cells #[.int .i64 u.k, .int .i64 u.n, .string (tx u.s), .int .i64 u.x, .int .i64 u.y, .slice Ao2 S.out.length co2, .int .i64 (m : Int)] 36)))
          have HRB11 : Hid (Blk (w10.alloc (.cells #[.int .i64 u.k, .int .i64 u.n, .string (tx u.s), .int .i64 u.x, .int .i64 u.y, .slice Ao2 S.out.length co2, .int .i64 (m : Int)] 36)) w10.heap.size [.int .i64 u.k, .int .i64 u.n, .string (tx u.s), .int .i64 u.x, .int .i64 u.y, .slice Ao2 S.out.length co2, .int .i64 (m : Int)]) := Blk.made w10 36 [.int .i64 u.k, .int .i64 u.n, .string (tx u.s), .int .i64 u.x, .int .i64 u.y, .slice Ao2 S.out.length co2, .int .i64 (m : Int)] rfl
          obtain ⟨w11, hw11⟩ : ∃ w11, w10.alloc (.cells #[.int .i64 u.k, .int .i64 u.n, .string (tx u.s), .int .i64 u.x, .int .i64 u.y, .slice Ao2 S.out.length co2, .int .i64 (m : Int)] 36) = w11 := ⟨_, rfl⟩
          rw [hw11] at HB11 HE11 HO11 HP11 HS11 HRA11 HT11 HRB11
          rw [hw11]
          obtain ⟨bRB, hbRB⟩ : ∃ b, w10.heap.size = b := ⟨_, rfl⟩
          rw [hbRB] at HRB11
          simp only [hbRB]
          clear HB10 HE10 HO10 HP10 HS10 HRA10 HT10 hltRA_ qRA0 qRA1 qRA2 qRA3 qRA4 qRA5 qRA6 hw11 hbRB
          refine (same_pairs S.out Ao Ao2 co co2 _ HS11.out HT11.out (by omega)).mono ?_
          rintro e w12 ⟨rfl, hb⟩
          have HB12 := Lib.hid (Below.next HB11.out hb)
          have HE12 := Lib.hid (HE11.out.next hb)
          have HO12 := Lib.hid (HO11.out.next hb)
          have HP12 := Lib.hid (HP11.out.next hb)
          have HS12 := Lib.hid (HS11.out.next hb)
          have HRA12 := Lib.hid (HRA11.out.next hb)
          have HT12 := Lib.hid (HT11.out.next hb)
          have HRB12 := Lib.hid (HRB11.out.next hb)
          clear HB11 HE11 HO11 HP11 HS11 HRA11 HT11 HRB11  hb
          go_wp2_with (fail)
          go_ret
          exact ⟨by simp, HB12.out⟩
      · skip
        have hltE_ := HE6.out.lt
        have qE0 := HE6.out.c 0 _ rfl
        have qE1 := HE6.out.c 1 _ rfl
        have qE2 := HE6.out.c 2 _ rfl
        have qE3 := HE6.out.c 3 _ rfl
        have qE4 := HE6.out.c 4 _ rfl
        have qE5 := HE6.out.c 5 _ rfl
        have qE6 := HE6.out.c 6 _ rfl
        have qE7 := HE6.out.c 7 _ rfl
        have qE8 := HE6.out.c 8 _ rfl
        have qE9 := HE6.out.c 9 _ rfl
        have qE10 := HE6.out.c 10 _ rfl
        have hltO_ := HO6.out.lt
        have qO0 := HO6.out.c 0 _ rfl
        have qO1 := HO6.out.c 1 _ rfl
        have qO2 := HO6.out.c 2 _ rfl
        have qO3 := HO6.out.c 3 _ rfl
        have qO4 := HO6.out.c 4 _ rfl
        have qO5 := HO6.out.c 5 _ rfl
        have qO6 := HO6.out.c 6 _ rfl
        have qO7 := HO6.out.c 7 _ rfl
        have qO8 := HO6.out.c 8 _ rfl
        have qO9 := HO6.out.c 9 _ rfl
        have qO10 := HO6.out.c 10 _ rfl
        have z0 := HO6.out.f 0 _ rfl
        have z1 := HO6.out.f 1 _ rfl
        have z2 := HO6.out.f 2 _ rfl
        have z3 := HO6.out.f 3 _ rfl
        have z4 := HO6.out.f 4 _ rfl
        have z5 := HO6.out.f 5 _ rfl
        have z6 := HO6.out.f 6 _ rfl
        have z7 := HO6.out.f 7 _ rfl
        have z8 := HO6.out.f 8 _ rfl
        have z9 := HO6.out.f 9 _ rfl
        have z10 := HO6.out.f 10 _ rfl
        go_wp2_with (fail)
        have hb9 := (below_puts (B := w.heap.size + 1) [.int .i64 a.k, .int .i64 a.n, .string (tx a.s), .int .i64 a.x, .int .i64 a.y] 6 (below_puts (B := w.heap.size + 1) [.string (tx k)] 0 HB6.out (by omega)) (by omega))
        have he9 := (blk_puts_other (C := w.heap.size + 1) (by omega) [.int .i64 a.k, .int .i64 a.n, .string (tx a.s), .int .i64 a.x, .int .i64 a.y] 6 (blk_puts_other (C := w.heap.size + 1) (by omega) [.string (tx k)] 0 HE6.out))
        have ho9 := (blk_puts [.int .i64 a.k, .int .i64 a.n, .string (tx a.s), .int .i64 a.x, .int .i64 a.y] 6 (blk_puts [.string (tx k)] 0 HO6.out (by simp)) (by simp))
        have hp9 := (nds_puts (C := w.heap.size + 1) [.int .i64 a.k, .int .i64 a.n, .string (tx a.s), .int .i64 a.x, .int .i64 a.y] 6 (nds_puts (C := w.heap.size + 1) [.string (tx k)] 0 HP6.out HPF.out) HPF.out)
        change Blk _ _ [.string (tx k), .int .i64 v2.k, .int .i64 v2.n, .string (tx v2.s), .int .i64 v2.x, .int .i64 v2.y, .int .i64 a.k, .int .i64 a.n, .string (tx a.s), .int .i64 a.x, .int .i64 a.y] at ho9
        change Calls _ _ _ ((putL (putL w6 (w.heap.size + 1) 0 [.string (tx k)]) (w.heap.size + 1) 6 [.int .i64 a.k, .int .i64 a.n, .string (tx a.s), .int .i64 a.x, .int .i64 a.y]).alloc (.cells #[.bool true, .bool false, .bool true, .bool n3, .bool n4] 52)) _
        obtain ⟨x9, hx9⟩ : ∃ x9, (putL (putL w6 (w.heap.size + 1) 0 [.string (tx k)]) (w.heap.size + 1) 6 [.int .i64 a.k, .int .i64 a.n, .string (tx a.s), .int .i64 a.x, .int .i64 a.y]) = x9 := ⟨_, rfl⟩
        rw [hx9] at hb9 he9 ho9 hp9 ⊢
        clear hx9
        have HB7 := Lib.hid (Below.next hb9 (box1 x9 (.cells #[.bool true, .bool false, .bool true, .bool n3, .bool n4] 52))); have HE7 := Lib.hid (he9.old (.cells #[.bool true, .bool false, .bool true, .bool n3, .bool n4] 52)); have HO7 := Lib.hid (ho9.old (.cells #[.bool true, .bool false, .bool true, .bool n3, .bool n4] 52)); have HP7 := Lib.hid (hp9.next (box1 x9 (.cells #[.bool true, .bool false, .bool true, .bool n3, .bool n4] 52)))
        obtain ⟨w7, hw7⟩ : ∃ w7, x9.alloc (.cells #[.bool true, .bool false, .bool true, .bool n3, .bool n4] 52) = w7 := ⟨_, rfl⟩
        rw [hw7] at HB7 HE7 HO7 HP7 ⊢
        clear HB6 HE6 HO6 HP6 hltE_ qE0 qE1 qE2 qE3 qE4 qE5 qE6 qE7 qE8 qE9 qE10 hltO_ qO0 qO1 qO2 qO3 qO4 qO5 qO6 qO7 qO8 qO9 qO10 z0 z1 z2 z3 z4 z5 z6 z7 z8 z9 z10 hb9 he9 ho9 hp9 hw7
        have htwo := names_two (HALI.out k v2 a (fun _ => rfl) (fun h => by cases h) (fun _ => rfl)) ((q : Int) % 3000)
        rcases htwo with htwo | ⟨x, hx1, hx2⟩ | ⟨u, S, S2, m, hx1, hx2, hSS⟩
        · skip
          have hltE_ := HE7.out.lt
          have qE0 := HE7.out.c 0 _ rfl
          have qE1 := HE7.out.c 1 _ rfl
          have qE2 := HE7.out.c 2 _ rfl
          have qE3 := HE7.out.c 3 _ rfl
          have qE4 := HE7.out.c 4 _ rfl
          have qE5 := HE7.out.c 5 _ rfl
          have qE6 := HE7.out.c 6 _ rfl
          have qE7 := HE7.out.c 7 _ rfl
          have qE8 := HE7.out.c 8 _ rfl
          have qE9 := HE7.out.c 9 _ rfl
          have qE10 := HE7.out.c 10 _ rfl
          refine (HRU.out k v a ((q : Int) % 3000) _ HB7.out Ap cp HP7.out (by omega)).mono ?_
          rintro e w8 ⟨hb, hq1⟩
          have HB8 := Lib.hid (Below.next HB7.out hb)
          have HE8 := Lib.hid (HE7.out.next hb)
          have HO8 := Lib.hid (HO7.out.next hb)
          have HP8 := Lib.hid (HP7.out.next hb)
          clear HB7 HE7 HO7 HP7 hltE_ qE0 qE1 qE2 qE3 qE4 qE5 qE6 qE7 qE8 qE9 qE10 hb
          obtain ⟨X1, hX1⟩ : ∃ X, rnX l k v a ((q : Int) % 3000) = X := ⟨_, rfl⟩
          rw [hX1] at hq1 htwo
          obtain ⟨X2, hX2⟩ : ∃ X, rnX l k v2 a ((q : Int) % 3000) = X := ⟨_, rfl⟩
          rw [hX2] at htwo
          clear hX1
          cases X1 with
          | er y1 =>
            obtain ⟨hy1, rfl⟩ := hq1
            have hy2 : (y1 == 0) = false := by simpa using hy1
            have hltO_ := HO8.out.lt
            have qO0 := HO8.out.c 0 _ rfl
            have qO1 := HO8.out.c 1 _ rfl
            have qO2 := HO8.out.c 2 _ rfl
            have qO3 := HO8.out.c 3 _ rfl
            have qO4 := HO8.out.c 4 _ rfl
            have qO5 := HO8.out.c 5 _ rfl
            have qO6 := HO8.out.c 6 _ rfl
            have qO7 := HO8.out.c 7 _ rfl
            have qO8 := HO8.out.c 8 _ rfl
            have qO9 := HO8.out.c 9 _ rfl
            have qO10 := HO8.out.c 10 _ rfl
            go_wp2_with (fail)
            have HB9 := Lib.hid (Below.next HB8.out (box1 w8 (.cells #[.int .i64 0, .int .i64 0, .string ⟨#[]⟩, .int .i64 0, .int .i64 0, .slice none 0 0, .int .i64 0] 36)))
            have HE9 := Lib.hid (HE8.out.next (box1 w8 (.cells #[.int .i64 0, .int .i64 0, .string ⟨#[]⟩, .int .i64 0, .int .i64 0, .slice none 0 0, .int .i64 0] 36)))
            have HO9 := Lib.hid (HO8.out.next (box1 w8 (.cells #[.int .i64 0, .int .i64 0, .string ⟨#[]⟩, .int .i64 0, .int .i64 0, .slice none 0 0, .int .i64 0] 36)))
            have HP9 := Lib.hid (HP8.out.next (box1 w8 (.cells #[.int .i64 0, .int .i64 0, .string ⟨#[]⟩, .int .i64 0, .int .i64 0, .slice none 0 0, .int .i64 0] 36)))
            have HRA9 : Hid (Blk (w8.alloc (.cells #[.int .i64 0, .int .i64 0, .string ⟨#[]⟩, .int .i64 0, .int .i64 0, .slice none 0 0, .int .i64 0] 36)) w8.heap.size [.int .i64 0, .int .i64 0, .string ⟨#[]⟩, .int .i64 0, .int .i64 0, .slice none 0 0, .int .i64 0]) := Blk.made w8 36 [.int .i64 0, .int .i64 0, .string ⟨#[]⟩, .int .i64 0, .int .i64 0, .slice none 0 0, .int .i64 0] rfl
            obtain ⟨w9, hw9⟩ : ∃ w9, w8.alloc (.cells #[.int .i64 0, .int .i64 0, .string ⟨#[]⟩, .int .i64 0, .int .i64 0, .slice none 0 0, .int .i64 0] 36) = w9 := ⟨_, rfl⟩
            rw [hw9] at HB9 HE9 HO9 HP9 HRA9
            rw [hw9]
            obtain ⟨bRA, hbRA⟩ : ∃ b, w8.heap.size = b := ⟨_, rfl⟩
            rw [hbRA] at HRA9
            simp only [hbRA]
            clear HB8 HE8 HO8 HP8 hltO_ qO0 qO1 qO2 qO3 qO4 qO5 qO6 qO7 qO8 qO9 qO10 hw9 hbRA
            have hltO_ := HO9.out.lt
            have qO0 := HO9.out.c 0 _ rfl
            have qO1 := HO9.out.c 1 _ rfl
            have qO2 := HO9.out.c 2 _ rfl
            have qO3 := HO9.out.c 3 _ rfl
            have qO4 := HO9.out.c 4 _ rfl
            have qO5 := HO9.out.c 5 _ rfl
            have qO6 := HO9.out.c 6 _ rfl
            have qO7 := HO9.out.c 7 _ rfl
            have qO8 := HO9.out.c 8 _ rfl
            have qO9 := HO9.out.c 9 _ rfl
            have qO10 := HO9.out.c 10 _ rfl
            refine (HRU.out k v2 a ((q : Int) % 3000) _ HB9.out Ap cp HP9.out (by omega)).mono ?_
            rintro e w10 ⟨hb, hq2⟩
            have HB10 := Lib.hid (Below.next HB9.out hb)
            have HE10 := Lib.hid (HE9.out.next hb)
            have HO10 := Lib.hid (HO9.out.next hb)
            have HP10 := Lib.hid (HP9.out.next hb)
            have HRA10 := Lib.hid (HRA9.out.next hb)
            clear HB9 HE9 HO9 HP9 HRA9 hltO_ qO0 qO1 qO2 qO3 qO4 qO5 qO6 qO7 qO8 qO9 qO10 hb
            rw [hX2] at hq2
            clear hX2
            cases X2 with
            | er y2 =>
              obtain ⟨_, rfl⟩ := hq2
              rcases htwo with h | h <;> injection h with h <;> subst h
              all_goals
                go_wp2_with (fail)
                all_goals
                  go_ret
                  exact ⟨by simp, Below.next HB10.out (box1 _ _)⟩
            | ok u2 S2 m2 =>
              obtain ⟨Ao2, co2, _, rfl⟩ := hq2
              obtain rfl : y1 = 1 := by
                rcases htwo with h | h
                · injection h
                · cases h
              go_wp2_with (fail)
              go_ret
              exact ⟨by simp, Below.next HB10.out (box1 _ _)⟩
          | ok u1 S1 m1 =>
            obtain ⟨Ao, co, _, rfl⟩ := hq1
            have hltO_ := HO8.out.lt
            have qO0 := HO8.out.c 0 _ rfl
            have qO1 := HO8.out.c 1 _ rfl
            have qO2 := HO8.out.c 2 _ rfl
            have qO3 := HO8.out.c 3 _ rfl
            have qO4 := HO8.out.c 4 _ rfl
            have qO5 := HO8.out.c 5 _ rfl
            have qO6 := HO8.out.c 6 _ rfl
            have qO7 := HO8.out.c 7 _ rfl
            have qO8 := HO8.out.c 8 _ rfl
            have qO9 := HO8.out.c 9 _ rfl
            have qO10 := HO8.out.c 10 _ rfl
            go_wp2_with (fail)
            have HB9 := Lib.hid (Below.next HB8.out (box1 w8 (.cells #[.int .i64 u1.k, .int .i64 u1.n, .string (tx u1.s), .int .i64 u1.x, .int .i64 u1.y, .slice Ao S1.out.length co, .int .i64 (m1 : Int)] 36)))
            have HE9 := Lib.hid (HE8.out.next (box1 w8 (.cells #[.int .i64 u1.k, .int .i64 u1.n, .string (tx u1.s), .int .i64 u1.x, .int .i64 u1.y, .slice Ao S1.out.length co, .int .i64 (m1 : Int)] 36)))
            have HO9 := Lib.hid (HO8.out.next (box1 w8 (.cells #[.int .i64 u1.k, .int .i64 u1.n, .string (tx u1.s), .int .i64 u1.x, .int .i64 u1.y, .slice Ao S1.out.length co, .int .i64 (m1 : Int)] 36)))
            have HP9 := Lib.hid (HP8.out.next (box1 w8 (.cells #[.int .i64 u1.k, .int .i64 u1.n, .string (tx u1.s), .int .i64 u1.x, .int .i64 u1.y, .slice Ao S1.out.length co, .int .i64 (m1 : Int)] 36)))
            have HRA9 : Hid (Blk (w8.alloc (.cells #[.int .i64 u1.k, .int .i64 u1.n, .string (tx u1.s), .int .i64 u1.x, .int .i64 u1.y, .slice Ao S1.out.length co, .int .i64 (m1 : Int)] 36)) w8.heap.size [.int .i64 u1.k, .int .i64 u1.n, .string (tx u1.s), .int .i64 u1.x, .int .i64 u1.y, .slice Ao S1.out.length co, .int .i64 (m1 : Int)]) := Blk.made w8 36 [.int .i64 u1.k, .int .i64 u1.n, .string (tx u1.s), .int .i64 u1.x, .int .i64 u1.y, .slice Ao S1.out.length co, .int .i64 (m1 : Int)] rfl
            obtain ⟨w9, hw9⟩ : ∃ w9, w8.alloc (.cells #[.int .i64 u1.k, .int .i64 u1.n, .string (tx u1.s), .int .i64 u1.x, .int .i64 u1.y, .slice Ao S1.out.length co, .int .i64 (m1 : Int)] 36) = w9 := ⟨_, rfl⟩
            rw [hw9] at HB9 HE9 HO9 HP9 HRA9
            rw [hw9]
            obtain ⟨bRA, hbRA⟩ : ∃ b, w8.heap.size = b := ⟨_, rfl⟩
            rw [hbRA] at HRA9
            simp only [hbRA]
            clear HB8 HE8 HO8 HP8 hltO_ qO0 qO1 qO2 qO3 qO4 qO5 qO6 qO7 qO8 qO9 qO10 hw9 hbRA
            have hltO_ := HO9.out.lt
            have qO0 := HO9.out.c 0 _ rfl
            have qO1 := HO9.out.c 1 _ rfl
            have qO2 := HO9.out.c 2 _ rfl
            have qO3 := HO9.out.c 3 _ rfl
            have qO4 := HO9.out.c 4 _ rfl
            have qO5 := HO9.out.c 5 _ rfl
            have qO6 := HO9.out.c 6 _ rfl
            have qO7 := HO9.out.c 7 _ rfl
            have qO8 := HO9.out.c 8 _ rfl
            have qO9 := HO9.out.c 9 _ rfl
            have qO10 := HO9.out.c 10 _ rfl
            refine (HRU.out k v2 a ((q : Int) % 3000) _ HB9.out Ap cp HP9.out (by omega)).mono ?_
            rintro e w10 ⟨hb, hq2⟩
            have HB10 := Lib.hid (Below.next HB9.out hb)
            have HE10 := Lib.hid (HE9.out.next hb)
            have HO10 := Lib.hid (HO9.out.next hb)
            have HP10 := Lib.hid (HP9.out.next hb)
            have HRA10 := Lib.hid (HRA9.out.next hb)
            clear HB9 HE9 HO9 HP9 HRA9 hltO_ qO0 qO1 qO2 qO3 qO4 qO5 qO6 qO7 qO8 qO9 qO10 hb
            rw [hX2] at hq2
            clear hX2
            cases X2 with
            | er y2 =>
              obtain ⟨_, rfl⟩ := hq2
              obtain rfl : y2 = 1 := by
                rcases htwo with h | h
                · cases h
                · injection h
              go_wp2_with (fail)
              go_ret
              exact ⟨by simp, Below.next HB10.out (box1 _ _)⟩
            | ok u2 S2 m2 =>
              obtain ⟨Ao2, co2, _, rfl⟩ := hq2
              rcases htwo with h | h <;> cases h
        · skip
          have hltE_ := HE7.out.lt
          have qE0 := HE7.out.c 0 _ rfl
          have qE1 := HE7.out.c 1 _ rfl
          have qE2 := HE7.out.c 2 _ rfl
          have qE3 := HE7.out.c 3 _ rfl
          have qE4 := HE7.out.c 4 _ rfl
          have qE5 := HE7.out.c 5 _ rfl
          have qE6 := HE7.out.c 6 _ rfl
          have qE7 := HE7.out.c 7 _ rfl
          have qE8 := HE7.out.c 8 _ rfl
          have qE9 := HE7.out.c 9 _ rfl
          have qE10 := HE7.out.c 10 _ rfl
          refine (HRU.out k v a ((q : Int) % 3000) _ HB7.out Ap cp HP7.out (by omega)).mono ?_
          rintro e w8 ⟨hb, hq1⟩
          have HB8 := Lib.hid (Below.next HB7.out hb)
          have HE8 := Lib.hid (HE7.out.next hb)
          have HO8 := Lib.hid (HO7.out.next hb)
          have HP8 := Lib.hid (HP7.out.next hb)
          clear HB7 HE7 HO7 HP7 hltE_ qE0 qE1 qE2 qE3 qE4 qE5 qE6 qE7 qE8 qE9 qE10 hb
          rw [hx1] at hq1
          obtain ⟨hy1, rfl⟩ := hq1
          have hltO_ := HO8.out.lt
          have qO0 := HO8.out.c 0 _ rfl
          have qO1 := HO8.out.c 1 _ rfl
          have qO2 := HO8.out.c 2 _ rfl
          have qO3 := HO8.out.c 3 _ rfl
          have qO4 := HO8.out.c 4 _ rfl
          have qO5 := HO8.out.c 5 _ rfl
          have qO6 := HO8.out.c 6 _ rfl
          have qO7 := HO8.out.c 7 _ rfl
          have qO8 := HO8.out.c 8 _ rfl
          have qO9 := HO8.out.c 9 _ rfl
          have qO10 := HO8.out.c 10 _ rfl
          go_wp2_with (fail)
          have HB9 := Lib.hid (Below.next HB8.out (box1 w8 (.cells #[.int .i64 0, .int .i64 0, .string ⟨#[]⟩, .int .i64 0, .int .i64 0, .slice none 0 0, .int .i64 0] 36)))
          have HE9 := Lib.hid (HE8.out.next (box1 w8 (.cells #[.int .i64 0, .int .i64 0, .string ⟨#[]⟩, .int .i64 0, .int .i64 0, .slice none 0 0, .int .i64 0] 36)))
          have HO9 := Lib.hid (HO8.out.next (box1 w8 (.cells #[.int .i64 0, .int .i64 0, .string ⟨#[]⟩, .int .i64 0, .int .i64 0, .slice none 0 0, .int .i64 0] 36)))
          have HP9 := Lib.hid (HP8.out.next (box1 w8 (.cells #[.int .i64 0, .int .i64 0, .string ⟨#[]⟩, .int .i64 0, .int .i64 0, .slice none 0 0, .int .i64 0] 36)))
          have HRA9 : Hid (Blk (w8.alloc (.cells #[.int .i64 0, .int .i64 0, .string ⟨#[]⟩, .int .i64 0, .int .i64 0, .slice none 0 0, .int .i64 0] 36)) w8.heap.size [.int .i64 0, .int .i64 0, .string ⟨#[]⟩, .int .i64 0, .int .i64 0, .slice none 0 0, .int .i64 0]) := Blk.made w8 36 [.int .i64 0, .int .i64 0, .string ⟨#[]⟩, .int .i64 0, .int .i64 0, .slice none 0 0, .int .i64 0] rfl
          obtain ⟨w9, hw9⟩ : ∃ w9, w8.alloc (.cells #[.int .i64 0, .int .i64 0, .string ⟨#[]⟩, .int .i64 0, .int .i64 0, .slice none 0 0, .int .i64 0] 36) = w9 := ⟨_, rfl⟩
          rw [hw9] at HB9 HE9 HO9 HP9 HRA9
          rw [hw9]
          obtain ⟨bRA, hbRA⟩ : ∃ b, w8.heap.size = b := ⟨_, rfl⟩
          rw [hbRA] at HRA9
          simp only [hbRA]
          clear HB8 HE8 HO8 HP8 hltO_ qO0 qO1 qO2 qO3 qO4 qO5 qO6 qO7 qO8 qO9 qO10 hw9 hbRA
          have hltO_ := HO9.out.lt
          have qO0 := HO9.out.c 0 _ rfl
          have qO1 := HO9.out.c 1 _ rfl
          have qO2 := HO9.out.c 2 _ rfl
          have qO3 := HO9.out.c 3 _ rfl
          have qO4 := HO9.out.c 4 _ rfl
          have qO5 := HO9.out.c 5 _ rfl
          have qO6 := HO9.out.c 6 _ rfl
          have qO7 := HO9.out.c 7 _ rfl
          have qO8 := HO9.out.c 8 _ rfl
          have qO9 := HO9.out.c 9 _ rfl
          have qO10 := HO9.out.c 10 _ rfl
          refine (HRU.out k v2 a ((q : Int) % 3000) _ HB9.out Ap cp HP9.out (by omega)).mono ?_
          rintro e w10 ⟨hb, hq2⟩
          have HB10 := Lib.hid (Below.next HB9.out hb)
          have HE10 := Lib.hid (HE9.out.next hb)
          have HO10 := Lib.hid (HO9.out.next hb)
          have HP10 := Lib.hid (HP9.out.next hb)
          have HRA10 := Lib.hid (HRA9.out.next hb)
          clear HB9 HE9 HO9 HP9 HRA9 hltO_ qO0 qO1 qO2 qO3 qO4 qO5 qO6 qO7 qO8 qO9 qO10 hb
          rw [hx2] at hq2
          obtain ⟨_, rfl⟩ := hq2
          have hltRA_ := HRA10.out.lt
          have qRA0 := HRA10.out.c 0 _ rfl
          have qRA1 := HRA10.out.c 1 _ rfl
          have qRA2 := HRA10.out.c 2 _ rfl
          have qRA3 := HRA10.out.c 3 _ rfl
          have qRA4 := HRA10.out.c 4 _ rfl
          have qRA5 := HRA10.out.c 5 _ rfl
          have qRA6 := HRA10.out.c 6 _ rfl
          have hEV : ∀ W, (binOp .eql 26 (.agg #[.int .i64 vz.k, .int .i64 vz.n, .string (tx vz.s), .int .i64 vz.x, .int .i64 vz.y]) (.agg #[.int .i64 vz.k, .int .i64 vz.n, .string (tx vz.s), .int .i64 vz.x, .int .i64 vz.y])).run Tryz.prog W = .ok (.bool true) W := fun W => eql_va vz vz W
          change ∀ W, (binOp .eql 26 (.agg #[.int .i64 0, .int .i64 0, .string ⟨#[]⟩, .int .i64 0, .int .i64 0]) (.agg #[.int .i64 0, .int .i64 0, .string ⟨#[]⟩, .int .i64 0, .int .i64 0])).run Tryz.prog W = .ok (.bool true) W at hEV
          by_cases hy3 : x = 1
          · subst hy3
            go_wp2_with (fail)
            go_ret
            exact ⟨by simp, Below.next HB10.out (box1 _ _)⟩
          · have hy4 : (x == 1) = false := by simpa using hy3
            go_wp2_with (fail)
            have HB11 := Lib.hid (Below.next HB10.out (box1 w10 (.cells #[.int .i64 0, .int .i64 0, .string ⟨#[]⟩, .int .i64 0, .int .i64 0, .slice none 0 0, .int .i64 0] 36)))
            have HE11 := Lib.hid (HE10.out.next (box1 w10 (.cells #[.int .i64 0, .int .i64 0, .string ⟨#[]⟩, .int .i64 0, .int .i64 0, .slice none 0 0, .int .i64 0] 36)))
            have HO11 := Lib.hid (HO10.out.next (box1 w10 (.cells #[.int .i64 0, .int .i64 0, .string ⟨#[]⟩, .int .i64 0, .int .i64 0, .slice none 0 0, .int .i64 0] 36)))
            have HP11 := Lib.hid (HP10.out.next (box1 w10 (.cells #[.int .i64 0, .int .i64 0, .string ⟨#[]⟩, .int .i64 0, .int .i64 0, .slice none 0 0, .int .i64 0] 36)))
            have HRA11 := Lib.hid (HRA10.out.next (box1 w10 (.cells #[.int .i64 0, .int .i64 0, .string ⟨#[]⟩, .int .i64 0, .int .i64 0, .slice none 0 0, .int .i64 0] 36)))
            have HRB11 : Hid (Blk (w10.alloc (.cells #[.int .i64 0, .int .i64 0, .string ⟨#[]⟩, .int .i64 0, .int .i64 0, .slice none 0 0, .int .i64 0] 36)) w10.heap.size [.int .i64 0, .int .i64 0, .string ⟨#[]⟩, .int .i64 0, .int .i64 0, .slice none 0 0, .int .i64 0]) := Blk.made w10 36 [.int .i64 0, .int .i64 0, .string ⟨#[]⟩, .int .i64 0, .int .i64 0, .slice none 0 0, .int .i64 0] rfl
            obtain ⟨w11, hw11⟩ : ∃ w11, w10.alloc (.cells #[.int .i64 0, .int .i64 0, .string ⟨#[]⟩, .int .i64 0, .int .i64 0, .slice none 0 0, .int .i64 0] 36) = w11 := ⟨_, rfl⟩
            rw [hw11] at HB11 HE11 HO11 HP11 HRA11 HRB11
            rw [hw11]
            obtain ⟨bRB, hbRB⟩ : ∃ b, w10.heap.size = b := ⟨_, rfl⟩
            rw [hbRB] at HRB11
            simp only [hbRB]
            clear HB10 HE10 HO10 HP10 HRA10 hltRA_ qRA0 qRA1 qRA2 qRA3 qRA4 qRA5 qRA6 hw11 hbRB
            refine (same_pairs [] none none 0 0 _ (fun h => absurd h (by decide)) (fun h => absurd h (by decide)) (by decide)).mono ?_
            rintro e w12 ⟨rfl, hb⟩
            have HB12 := Lib.hid (Below.next HB11.out hb)
            have HE12 := Lib.hid (HE11.out.next hb)
            have HO12 := Lib.hid (HO11.out.next hb)
            have HP12 := Lib.hid (HP11.out.next hb)
            have HRA12 := Lib.hid (HRA11.out.next hb)
            have HRB12 := Lib.hid (HRB11.out.next hb)
            clear HB11 HE11 HO11 HP11 HRA11 HRB11  hb
            go_wp2_with (fail)
            go_ret
            exact ⟨by simp, HB12.out⟩
        · skip
          have hSo := (rnX_left hx1).2.2.1
          have hltE_ := HE7.out.lt
          have qE0 := HE7.out.c 0 _ rfl
          have qE1 := HE7.out.c 1 _ rfl
          have qE2 := HE7.out.c 2 _ rfl
          have qE3 := HE7.out.c 3 _ rfl
          have qE4 := HE7.out.c 4 _ rfl
          have qE5 := HE7.out.c 5 _ rfl
          have qE6 := HE7.out.c 6 _ rfl
          have qE7 := HE7.out.c 7 _ rfl
          have qE8 := HE7.out.c 8 _ rfl
          have qE9 := HE7.out.c 9 _ rfl
          have qE10 := HE7.out.c 10 _ rfl
          refine (HRU.out k v a ((q : Int) % 3000) _ HB7.out Ap cp HP7.out (by omega)).mono ?_
          rintro e w8 ⟨hb, hq1⟩
          have HB8 := Lib.hid (Below.next HB7.out hb)
          have HE8 := Lib.hid (HE7.out.next hb)
          have HO8 := Lib.hid (HO7.out.next hb)
          have HP8 := Lib.hid (HP7.out.next hb)
          clear HB7 HE7 HO7 HP7 hltE_ qE0 qE1 qE2 qE3 qE4 qE5 qE6 qE7 qE8 qE9 qE10 hb
          rw [hx1] at hq1
          obtain ⟨Ao, co, ho, rfl⟩ := hq1
          have HS8 : Hid (Prs w8 Ao S.out) := Prs.of_own ho
          clear ho
          have hltO_ := HO8.out.lt
          have qO0 := HO8.out.c 0 _ rfl
          have qO1 := HO8.out.c 1 _ rfl
          have qO2 := HO8.out.c 2 _ rfl
          have qO3 := HO8.out.c 3 _ rfl
          have qO4 := HO8.out.c 4 _ rfl
          have qO5 := HO8.out.c 5 _ rfl
          have qO6 := HO8.out.c 6 _ rfl
          have qO7 := HO8.out.c 7 _ rfl
          have qO8 := HO8.out.c 8 _ rfl
          have qO9 := HO8.out.c 9 _ rfl
          have qO10 := HO8.out.c 10 _ rfl
          go_wp2_with (fail)
          have HB9 := Lib.hid (Below.next HB8.out (box1 w8 (.cells #[.int .i64 u.k, .int .i64 u.n, .string (tx u.s), .int .i64 u.x, .int .i64 u.y, .slice Ao S.out.length co, .int .i64 (m : Int)] 36)))
          have HE9 := Lib.hid (HE8.out.next (box1 w8 (.cells #[.int .i64 u.k, .int .i64 u.n, .string (tx u.s), .int .i64 u.x, .int .i64 u.y, .slice Ao S.out.length co, .int .i64 (m : Int)] 36)))
          have HO9 := Lib.hid (HO8.out.next (box1 w8 (.cells #[.int .i64 u.k, .int .i64 u.n, .string (tx u.s), .int .i64 u.x, .int .i64 u.y, .slice Ao S.out.length co, .int .i64 (m : Int)] 36)))
          have HP9 := Lib.hid (HP8.out.next (box1 w8 (.cells #[.int .i64 u.k, .int .i64 u.n, .string (tx u.s), .int .i64 u.x, .int .i64 u.y, .slice Ao S.out.length co, .int .i64 (m : Int)] 36)))
          have HS9 := Lib.hid (HS8.out.next (box1 w8 (.cells #[.int .i64 u.k, .int .i64 u.n, .string (tx u.s), .int .i64 u.x, .int .i64 u.y, .slice Ao S.out.length co, .int .i64 (m : Int)] 36)))
          have HRA9 : Hid (Blk (w8.alloc (.cells #[.int .i64 u.k, .int .i64 u.n, .string (tx u.s), .int .i64 u.x, .int .i64 u.y, .slice Ao S.out.length co, .int .i64 (m : Int)] 36)) w8.heap.size [.int .i64 u.k, .int .i64 u.n, .string (tx u.s), .int .i64 u.x, .int .i64 u.y, .slice Ao S.out.length co, .int .i64 (m : Int)]) := Blk.made w8 36 [.int .i64 u.k, .int .i64 u.n, .string (tx u.s), .int .i64 u.x, .int .i64 u.y, .slice Ao S.out.length co, .int .i64 (m : Int)] rfl
          obtain ⟨w9, hw9⟩ : ∃ w9, w8.alloc (.cells #[.int .i64 u.k, .int .i64 u.n, .string (tx u.s), .int .i64 u.x, .int .i64 u.y, .slice Ao S.out.length co, .int .i64 (m : Int)] 36) = w9 := ⟨_, rfl⟩
          rw [hw9] at HB9 HE9 HO9 HP9 HS9 HRA9
          rw [hw9]
          obtain ⟨bRA, hbRA⟩ : ∃ b, w8.heap.size = b := ⟨_, rfl⟩
          rw [hbRA] at HRA9
          simp only [hbRA]
          clear HB8 HE8 HO8 HP8 HS8 hltO_ qO0 qO1 qO2 qO3 qO4 qO5 qO6 qO7 qO8 qO9 qO10 hw9 hbRA
          have hltO_ := HO9.out.lt
          have qO0 := HO9.out.c 0 _ rfl
          have qO1 := HO9.out.c 1 _ rfl
          have qO2 := HO9.out.c 2 _ rfl
          have qO3 := HO9.out.c 3 _ rfl
          have qO4 := HO9.out.c 4 _ rfl
          have qO5 := HO9.out.c 5 _ rfl
          have qO6 := HO9.out.c 6 _ rfl
          have qO7 := HO9.out.c 7 _ rfl
          have qO8 := HO9.out.c 8 _ rfl
          have qO9 := HO9.out.c 9 _ rfl
          have qO10 := HO9.out.c 10 _ rfl
          refine (HRU.out k v2 a ((q : Int) % 3000) _ HB9.out Ap cp HP9.out (by omega)).mono ?_
          rintro e w10 ⟨hb, hq2⟩
          have HB10 := Lib.hid (Below.next HB9.out hb)
          have HE10 := Lib.hid (HE9.out.next hb)
          have HO10 := Lib.hid (HO9.out.next hb)
          have HP10 := Lib.hid (HP9.out.next hb)
          have HS10 := Lib.hid (HS9.out.next hb)
          have HRA10 := Lib.hid (HRA9.out.next hb)
          clear HB9 HE9 HO9 HP9 HS9 HRA9 hltO_ qO0 qO1 qO2 qO3 qO4 qO5 qO6 qO7 qO8 qO9 qO10 hb
          rw [hx2] at hq2
          obtain ⟨Ao2, co2, ho, rfl⟩ := hq2
          rw [hSS] at ho ⊢
          have HT10 : Hid (Prs w10 Ao2 S.out) := Prs.of_own ho
          clear ho
          have hltRA_ := HRA10.out.lt
          have qRA0 := HRA10.out.c 0 _ rfl
          have qRA1 := HRA10.out.c 1 _ rfl
          have qRA2 := HRA10.out.c 2 _ rfl
          have qRA3 := HRA10.out.c 3 _ rfl
          have qRA4 := HRA10.out.c 4 _ rfl
          have qRA5 := HRA10.out.c 5 _ rfl
          have qRA6 := HRA10.out.c 6 _ rfl
          have hEV : ∀ W, (binOp .eql 26 (.agg #[.int .i64 u.k, .int .i64 u.n, .string (tx u.s), .int .i64 u.x, .int .i64 u.y]) (.agg #[.int .i64 u.k, .int .i64 u.n, .string (tx u.s), .int .i64 u.x, .int .i64 u.y])).run Tryz.prog W = .ok (.bool true) W := fun W => by
            have h := eql_va u u W
            rwa [show decide (u = u) = true from decide_eq_true rfl] at h
          go_wp2_with (fail)
          have HB11 := Lib.hid (Below.next HB10.out (box1 w10 (.cells #[.int .i64 u.k, .int .i64 u.n, .string (tx u.s), .int .i64 u.x, .int .i64 u.y, .slice Ao2 S.out.length co2, .int .i64 (m : Int)] 36)))
          have HE11 := Lib.hid (HE10.out.next (box1 w10 (.cells #[.int .i64 u.k, .int .i64 u.n, .string (tx u.s), .int .i64 u.x, .int .i64 u.y, .slice Ao2 S.out.length co2, .int .i64 (m : Int)] 36)))
          have HO11 := Lib.hid (HO10.out.next (box1 w10 (.cells #[.int .i64 u.k, .int .i64 u.n, .string (tx u.s), .int .i64 u.x, .int .i64 u.y, .slice Ao2 S.out.length co2, .int .i64 (m : Int)] 36)))
          have HP11 := Lib.hid (HP10.out.next (box1 w10 (.cells #[.int .i64 u.k, .int .i64 u.n, .string (tx u.s), .int .i64 u.x, .int .i64 u.y, .slice Ao2 S.out.length co2, .int .i64 (m : Int)] 36)))
          have HS11 := Lib.hid (HS10.out.next (box1 w10 (.cells #[.int .i64 u.k, .int .i64 u.n, .string (tx u.s), .int .i64 u.x, .int .i64 u.y, .slice Ao2 S.out.length co2, .int .i64 (m : Int)] 36)))
          have HRA11 := Lib.hid (HRA10.out.next (box1 w10 (.cells #[.int .i64 u.k, .int .i64 u.n, .string (tx u.s), .int .i64 u.x, .int .i64 u.y, .slice Ao2 S.out.length co2, .int .i64 (m : Int)] 36)))
          have HT11 := Lib.hid (HT10.out.next (box1 w10 (.cells #[.int .i64 u.k, .int .i64 u.n, .string (tx u.s), .int .i64 u.x, .int .i64 u.y, .slice Ao2 S.out.length co2, .int .i64 (m : Int)] 36)))
          have HRB11 : Hid (Blk (w10.alloc (.cells #[.int .i64 u.k, .int .i64 u.n, .string (tx u.s), .int .i64 u.x, .int .i64 u.y, .slice Ao2 S.out.length co2, .int .i64 (m : Int)] 36)) w10.heap.size [.int .i64 u.k, .int .i64 u.n, .string (tx u.s), .int .i64 u.x, .int .i64 u.y, .slice Ao2 S.out.length co2, .int .i64 (m : Int)]) := Blk.made w10 36 [.int .i64 u.k, .int .i64 u.n, .string (tx u.s), .int .i64 u.x, .int .i64 u.y, .slice Ao2 S.out.length co2, .int .i64 (m : Int)] rfl
          obtain ⟨w11, hw11⟩ : ∃ w11, w10.alloc (.cells #[.int .i64 u.k, .int .i64 u.n, .string (tx u.s), .int .i64 u.x, .int .i64 u.y, .slice Ao2 S.out.length co2, .int .i64 (m : Int)] 36) = w11 := ⟨_, rfl⟩
          rw [hw11] at HB11 HE11 HO11 HP11 HS11 HRA11 HT11 HRB11
          rw [hw11]
          obtain ⟨bRB, hbRB⟩ : ∃ b, w10.heap.size = b := ⟨_, rfl⟩
          rw [hbRB] at HRB11
          simp only [hbRB]
          clear HB10 HE10 HO10 HP10 HS10 HRA10 HT10 hltRA_ qRA0 qRA1 qRA2 qRA3 qRA4 qRA5 qRA6 hw11 hbRB
          refine (same_pairs S.out Ao Ao2 co co2 _ HS11.out HT11.out (by omega)).mono ?_
          rintro e w12 ⟨rfl, hb⟩
          have HB12 := Lib.hid (Below.next HB11.out hb)
          have HE12 := Lib.hid (HE11.out.next hb)
          have HO12 := Lib.hid (HO11.out.next hb)
          have HP12 := Lib.hid (HP11.out.next hb)
          have HS12 := Lib.hid (HS11.out.next hb)
          have HRA12 := Lib.hid (HRA11.out.next hb)
          have HT12 := Lib.hid (HT11.out.next hb)
          have HRB12 := Lib.hid (HRB11.out.next hb)
          clear HB11 HE11 HO11 HP11 HS11 HRA11 HT11 HRB11  hb
          go_wp2_with (fail)
          go_ret
          exact ⟨by simp, HB12.out⟩
    · skip
      cases n2
      · skip
        have hltE_ := HE6.out.lt
        have qE0 := HE6.out.c 0 _ rfl
        have qE1 := HE6.out.c 1 _ rfl
        have qE2 := HE6.out.c 2 _ rfl
        have qE3 := HE6.out.c 3 _ rfl
        have qE4 := HE6.out.c 4 _ rfl
        have qE5 := HE6.out.c 5 _ rfl
        have qE6 := HE6.out.c 6 _ rfl
        have qE7 := HE6.out.c 7 _ rfl
        have qE8 := HE6.out.c 8 _ rfl
        have qE9 := HE6.out.c 9 _ rfl
        have qE10 := HE6.out.c 10 _ rfl
        have hltO_ := HO6.out.lt
        have qO0 := HO6.out.c 0 _ rfl
        have qO1 := HO6.out.c 1 _ rfl
        have qO2 := HO6.out.c 2 _ rfl
        have qO3 := HO6.out.c 3 _ rfl
        have qO4 := HO6.out.c 4 _ rfl
        have qO5 := HO6.out.c 5 _ rfl
        have qO6 := HO6.out.c 6 _ rfl
        have qO7 := HO6.out.c 7 _ rfl
        have qO8 := HO6.out.c 8 _ rfl
        have qO9 := HO6.out.c 9 _ rfl
        have qO10 := HO6.out.c 10 _ rfl
        have z0 := HO6.out.f 0 _ rfl
        have z1 := HO6.out.f 1 _ rfl
        have z2 := HO6.out.f 2 _ rfl
        have z3 := HO6.out.f 3 _ rfl
        have z4 := HO6.out.f 4 _ rfl
        have z5 := HO6.out.f 5 _ rfl
        have z6 := HO6.out.f 6 _ rfl
        have z7 := HO6.out.f 7 _ rfl
        have z8 := HO6.out.f 8 _ rfl
        have z9 := HO6.out.f 9 _ rfl
        have z10 := HO6.out.f 10 _ rfl
        go_wp2_with (fail)
        have hb9 := (below_puts (B := w.heap.size + 1) [.int .i64 v.k, .int .i64 v.n, .string (tx v.s), .int .i64 v.x, .int .i64 v.y] 1 (below_puts (B := w.heap.size + 1) [.string (tx k)] 0 HB6.out (by omega)) (by omega))
        have he9 := (blk_puts_other (C := w.heap.size + 1) (by omega) [.int .i64 v.k, .int .i64 v.n, .string (tx v.s), .int .i64 v.x, .int .i64 v.y] 1 (blk_puts_other (C := w.heap.size + 1) (by omega) [.string (tx k)] 0 HE6.out))
        have ho9 := (blk_puts [.int .i64 v.k, .int .i64 v.n, .string (tx v.s), .int .i64 v.x, .int .i64 v.y] 1 (blk_puts [.string (tx k)] 0 HO6.out (by simp)) (by simp))
        have hp9 := (nds_puts (C := w.heap.size + 1) [.int .i64 v.k, .int .i64 v.n, .string (tx v.s), .int .i64 v.x, .int .i64 v.y] 1 (nds_puts (C := w.heap.size + 1) [.string (tx k)] 0 HP6.out HPF.out) HPF.out)
        change Blk _ _ [.string (tx k), .int .i64 v.k, .int .i64 v.n, .string (tx v.s), .int .i64 v.x, .int .i64 v.y, .int .i64 a2.k, .int .i64 a2.n, .string (tx a2.s), .int .i64 a2.x, .int .i64 a2.y] at ho9
        change Calls _ _ _ ((putL (putL w6 (w.heap.size + 1) 0 [.string (tx k)]) (w.heap.size + 1) 1 [.int .i64 v.k, .int .i64 v.n, .string (tx v.s), .int .i64 v.x, .int .i64 v.y]).alloc (.cells #[.bool true, .bool true, .bool false, .bool n3, .bool n4] 52)) _
        obtain ⟨x9, hx9⟩ : ∃ x9, (putL (putL w6 (w.heap.size + 1) 0 [.string (tx k)]) (w.heap.size + 1) 1 [.int .i64 v.k, .int .i64 v.n, .string (tx v.s), .int .i64 v.x, .int .i64 v.y]) = x9 := ⟨_, rfl⟩
        rw [hx9] at hb9 he9 ho9 hp9 ⊢
        clear hx9
        have HB7 := Lib.hid (Below.next hb9 (box1 x9 (.cells #[.bool true, .bool true, .bool false, .bool n3, .bool n4] 52))); have HE7 := Lib.hid (he9.old (.cells #[.bool true, .bool true, .bool false, .bool n3, .bool n4] 52)); have HO7 := Lib.hid (ho9.old (.cells #[.bool true, .bool true, .bool false, .bool n3, .bool n4] 52)); have HP7 := Lib.hid (hp9.next (box1 x9 (.cells #[.bool true, .bool true, .bool false, .bool n3, .bool n4] 52)))
        obtain ⟨w7, hw7⟩ : ∃ w7, x9.alloc (.cells #[.bool true, .bool true, .bool false, .bool n3, .bool n4] 52) = w7 := ⟨_, rfl⟩
        rw [hw7] at HB7 HE7 HO7 HP7 ⊢
        clear HB6 HE6 HO6 HP6 hltE_ qE0 qE1 qE2 qE3 qE4 qE5 qE6 qE7 qE8 qE9 qE10 hltO_ qO0 qO1 qO2 qO3 qO4 qO5 qO6 qO7 qO8 qO9 qO10 z0 z1 z2 z3 z4 z5 z6 z7 z8 z9 z10 hb9 he9 ho9 hp9 hw7
        have htwo := names_two (HALI.out k v a2 (fun _ => rfl) (fun _ => rfl) (fun h => by cases h)) ((q : Int) % 3000)
        rcases htwo with htwo | ⟨x, hx1, hx2⟩ | ⟨u, S, S2, m, hx1, hx2, hSS⟩
        · skip
          have hltE_ := HE7.out.lt
          have qE0 := HE7.out.c 0 _ rfl
          have qE1 := HE7.out.c 1 _ rfl
          have qE2 := HE7.out.c 2 _ rfl
          have qE3 := HE7.out.c 3 _ rfl
          have qE4 := HE7.out.c 4 _ rfl
          have qE5 := HE7.out.c 5 _ rfl
          have qE6 := HE7.out.c 6 _ rfl
          have qE7 := HE7.out.c 7 _ rfl
          have qE8 := HE7.out.c 8 _ rfl
          have qE9 := HE7.out.c 9 _ rfl
          have qE10 := HE7.out.c 10 _ rfl
          refine (HRU.out k v a ((q : Int) % 3000) _ HB7.out Ap cp HP7.out (by omega)).mono ?_
          rintro e w8 ⟨hb, hq1⟩
          have HB8 := Lib.hid (Below.next HB7.out hb)
          have HE8 := Lib.hid (HE7.out.next hb)
          have HO8 := Lib.hid (HO7.out.next hb)
          have HP8 := Lib.hid (HP7.out.next hb)
          clear HB7 HE7 HO7 HP7 hltE_ qE0 qE1 qE2 qE3 qE4 qE5 qE6 qE7 qE8 qE9 qE10 hb
          obtain ⟨X1, hX1⟩ : ∃ X, rnX l k v a ((q : Int) % 3000) = X := ⟨_, rfl⟩
          rw [hX1] at hq1 htwo
          obtain ⟨X2, hX2⟩ : ∃ X, rnX l k v a2 ((q : Int) % 3000) = X := ⟨_, rfl⟩
          rw [hX2] at htwo
          clear hX1
          cases X1 with
          | er y1 =>
            obtain ⟨hy1, rfl⟩ := hq1
            have hy2 : (y1 == 0) = false := by simpa using hy1
            have hltO_ := HO8.out.lt
            have qO0 := HO8.out.c 0 _ rfl
            have qO1 := HO8.out.c 1 _ rfl
            have qO2 := HO8.out.c 2 _ rfl
            have qO3 := HO8.out.c 3 _ rfl
            have qO4 := HO8.out.c 4 _ rfl
            have qO5 := HO8.out.c 5 _ rfl
            have qO6 := HO8.out.c 6 _ rfl
            have qO7 := HO8.out.c 7 _ rfl
            have qO8 := HO8.out.c 8 _ rfl
            have qO9 := HO8.out.c 9 _ rfl
            have qO10 := HO8.out.c 10 _ rfl
            go_wp2_with (fail)
            have HB9 := Lib.hid (Below.next HB8.out (box1 w8 (.cells #[.int .i64 0, .int .i64 0, .string ⟨#[]⟩, .int .i64 0, .int .i64 0, .slice none 0 0, .int .i64 0] 36)))
            have HE9 := Lib.hid (HE8.out.next (box1 w8 (.cells #[.int .i64 0, .int .i64 0, .string ⟨#[]⟩, .int .i64 0, .int .i64 0, .slice none 0 0, .int .i64 0] 36)))
            have HO9 := Lib.hid (HO8.out.next (box1 w8 (.cells #[.int .i64 0, .int .i64 0, .string ⟨#[]⟩, .int .i64 0, .int .i64 0, .slice none 0 0, .int .i64 0] 36)))
            have HP9 := Lib.hid (HP8.out.next (box1 w8 (.cells #[.int .i64 0, .int .i64 0, .string ⟨#[]⟩, .int .i64 0, .int .i64 0, .slice none 0 0, .int .i64 0] 36)))
            have HRA9 : Hid (Blk (w8.alloc (.cells #[.int .i64 0, .int .i64 0, .string ⟨#[]⟩, .int .i64 0, .int .i64 0, .slice none 0 0, .int .i64 0] 36)) w8.heap.size [.int .i64 0, .int .i64 0, .string ⟨#[]⟩, .int .i64 0, .int .i64 0, .slice none 0 0, .int .i64 0]) := Blk.made w8 36 [.int .i64 0, .int .i64 0, .string ⟨#[]⟩, .int .i64 0, .int .i64 0, .slice none 0 0, .int .i64 0] rfl
            obtain ⟨w9, hw9⟩ : ∃ w9, w8.alloc (.cells #[.int .i64 0, .int .i64 0, .string ⟨#[]⟩, .int .i64 0, .int .i64 0, .slice none 0 0, .int .i64 0] 36) = w9 := ⟨_, rfl⟩
            rw [hw9] at HB9 HE9 HO9 HP9 HRA9
            rw [hw9]
            obtain ⟨bRA, hbRA⟩ : ∃ b, w8.heap.size = b := ⟨_, rfl⟩
            rw [hbRA] at HRA9
            simp only [hbRA]
            clear HB8 HE8 HO8 HP8 hltO_ qO0 qO1 qO2 qO3 qO4 qO5 qO6 qO7 qO8 qO9 qO10 hw9 hbRA
            have hltO_ := HO9.out.lt
            have qO0 := HO9.out.c 0 _ rfl
            have qO1 := HO9.out.c 1 _ rfl
            have qO2 := HO9.out.c 2 _ rfl
            have qO3 := HO9.out.c 3 _ rfl
            have qO4 := HO9.out.c 4 _ rfl
            have qO5 := HO9.out.c 5 _ rfl
            have qO6 := HO9.out.c 6 _ rfl
            have qO7 := HO9.out.c 7 _ rfl
            have qO8 := HO9.out.c 8 _ rfl
            have qO9 := HO9.out.c 9 _ rfl
            have qO10 := HO9.out.c 10 _ rfl
            refine (HRU.out k v a2 ((q : Int) % 3000) _ HB9.out Ap cp HP9.out (by omega)).mono ?_
            rintro e w10 ⟨hb, hq2⟩
            have HB10 := Lib.hid (Below.next HB9.out hb)
            have HE10 := Lib.hid (HE9.out.next hb)
            have HO10 := Lib.hid (HO9.out.next hb)
            have HP10 := Lib.hid (HP9.out.next hb)
            have HRA10 := Lib.hid (HRA9.out.next hb)
            clear HB9 HE9 HO9 HP9 HRA9 hltO_ qO0 qO1 qO2 qO3 qO4 qO5 qO6 qO7 qO8 qO9 qO10 hb
            rw [hX2] at hq2
            clear hX2
            cases X2 with
            | er y2 =>
              obtain ⟨_, rfl⟩ := hq2
              rcases htwo with h | h <;> injection h with h <;> subst h
              all_goals
                go_wp2_with (fail)
                all_goals
                  go_ret
                  exact ⟨by simp, Below.next HB10.out (box1 _ _)⟩
            | ok u2 S2 m2 =>
              obtain ⟨Ao2, co2, _, rfl⟩ := hq2
              obtain rfl : y1 = 1 := by
                rcases htwo with h | h
                · injection h
                · cases h
              go_wp2_with (fail)
              go_ret
              exact ⟨by simp, Below.next HB10.out (box1 _ _)⟩
          | ok u1 S1 m1 =>
            obtain ⟨Ao, co, _, rfl⟩ := hq1
            have hltO_ := HO8.out.lt
            have qO0 := HO8.out.c 0 _ rfl
            have qO1 := HO8.out.c 1 _ rfl
            have qO2 := HO8.out.c 2 _ rfl
            have qO3 := HO8.out.c 3 _ rfl
            have qO4 := HO8.out.c 4 _ rfl
            have qO5 := HO8.out.c 5 _ rfl
            have qO6 := HO8.out.c 6 _ rfl
            have qO7 := HO8.out.c 7 _ rfl
            have qO8 := HO8.out.c 8 _ rfl
            have qO9 := HO8.out.c 9 _ rfl
            have qO10 := HO8.out.c 10 _ rfl
            go_wp2_with (fail)
            have HB9 := Lib.hid (Below.next HB8.out (box1 w8 (.cells #[.int .i64 u1.k, .int .i64 u1.n, .string (tx u1.s), .int .i64 u1.x, .int .i64 u1.y, .slice Ao S1.out.length co, .int .i64 (m1 : Int)] 36)))
            have HE9 := Lib.hid (HE8.out.next (box1 w8 (.cells #[.int .i64 u1.k, .int .i64 u1.n, .string (tx u1.s), .int .i64 u1.x, .int .i64 u1.y, .slice Ao S1.out.length co, .int .i64 (m1 : Int)] 36)))
            have HO9 := Lib.hid (HO8.out.next (box1 w8 (.cells #[.int .i64 u1.k, .int .i64 u1.n, .string (tx u1.s), .int .i64 u1.x, .int .i64 u1.y, .slice Ao S1.out.length co, .int .i64 (m1 : Int)] 36)))
            have HP9 := Lib.hid (HP8.out.next (box1 w8 (.cells #[.int .i64 u1.k, .int .i64 u1.n, .string (tx u1.s), .int .i64 u1.x, .int .i64 u1.y, .slice Ao S1.out.length co, .int .i64 (m1 : Int)] 36)))
            have HRA9 : Hid (Blk (w8.alloc (.cells #[.int .i64 u1.k, .int .i64 u1.n, .string (tx u1.s), .int .i64 u1.x, .int .i64 u1.y, .slice Ao S1.out.length co, .int .i64 (m1 : Int)] 36)) w8.heap.size [.int .i64 u1.k, .int .i64 u1.n, .string (tx u1.s), .int .i64 u1.x, .int .i64 u1.y, .slice Ao S1.out.length co, .int .i64 (m1 : Int)]) := Blk.made w8 36 [.int .i64 u1.k, .int .i64 u1.n, .string (tx u1.s), .int .i64 u1.x, .int .i64 u1.y, .slice Ao S1.out.length co, .int .i64 (m1 : Int)] rfl
            obtain ⟨w9, hw9⟩ : ∃ w9, w8.alloc (.cells #[.int .i64 u1.k, .int .i64 u1.n, .string (tx u1.s), .int .i64 u1.x, .int .i64 u1.y, .slice Ao S1.out.length co, .int .i64 (m1 : Int)] 36) = w9 := ⟨_, rfl⟩
            rw [hw9] at HB9 HE9 HO9 HP9 HRA9
            rw [hw9]
            obtain ⟨bRA, hbRA⟩ : ∃ b, w8.heap.size = b := ⟨_, rfl⟩
            rw [hbRA] at HRA9
            simp only [hbRA]
            clear HB8 HE8 HO8 HP8 hltO_ qO0 qO1 qO2 qO3 qO4 qO5 qO6 qO7 qO8 qO9 qO10 hw9 hbRA
            have hltO_ := HO9.out.lt
            have qO0 := HO9.out.c 0 _ rfl
            have qO1 := HO9.out.c 1 _ rfl
            have qO2 := HO9.out.c 2 _ rfl
            have qO3 := HO9.out.c 3 _ rfl
            have qO4 := HO9.out.c 4 _ rfl
            have qO5 := HO9.out.c 5 _ rfl
            have qO6 := HO9.out.c 6 _ rfl
            have qO7 := HO9.out.c 7 _ rfl
            have qO8 := HO9.out.c 8 _ rfl
            have qO9 := HO9.out.c 9 _ rfl
            have qO10 := HO9.out.c 10 _ rfl
            refine (HRU.out k v a2 ((q : Int) % 3000) _ HB9.out Ap cp HP9.out (by omega)).mono ?_
            rintro e w10 ⟨hb, hq2⟩
            have HB10 := Lib.hid (Below.next HB9.out hb)
            have HE10 := Lib.hid (HE9.out.next hb)
            have HO10 := Lib.hid (HO9.out.next hb)
            have HP10 := Lib.hid (HP9.out.next hb)
            have HRA10 := Lib.hid (HRA9.out.next hb)
            clear HB9 HE9 HO9 HP9 HRA9 hltO_ qO0 qO1 qO2 qO3 qO4 qO5 qO6 qO7 qO8 qO9 qO10 hb
            rw [hX2] at hq2
            clear hX2
            cases X2 with
            | er y2 =>
              obtain ⟨_, rfl⟩ := hq2
              obtain rfl : y2 = 1 := by
                rcases htwo with h | h
                · cases h
                · injection h
              go_wp2_with (fail)
              go_ret
              exact ⟨by simp, Below.next HB10.out (box1 _ _)⟩
            | ok u2 S2 m2 =>
              obtain ⟨Ao2, co2, _, rfl⟩ := hq2
              rcases htwo with h | h <;> cases h
        · skip
          have hltE_ := HE7.out.lt
          have qE0 := HE7.out.c 0 _ rfl
          have qE1 := HE7.out.c 1 _ rfl
          have qE2 := HE7.out.c 2 _ rfl
          have qE3 := HE7.out.c 3 _ rfl
          have qE4 := HE7.out.c 4 _ rfl
          have qE5 := HE7.out.c 5 _ rfl
          have qE6 := HE7.out.c 6 _ rfl
          have qE7 := HE7.out.c 7 _ rfl
          have qE8 := HE7.out.c 8 _ rfl
          have qE9 := HE7.out.c 9 _ rfl
          have qE10 := HE7.out.c 10 _ rfl
          refine (HRU.out k v a ((q : Int) % 3000) _ HB7.out Ap cp HP7.out (by omega)).mono ?_
          rintro e w8 ⟨hb, hq1⟩
          have HB8 := Lib.hid (Below.next HB7.out hb)
          have HE8 := Lib.hid (HE7.out.next hb)
          have HO8 := Lib.hid (HO7.out.next hb)
          have HP8 := Lib.hid (HP7.out.next hb)
          clear HB7 HE7 HO7 HP7 hltE_ qE0 qE1 qE2 qE3 qE4 qE5 qE6 qE7 qE8 qE9 qE10 hb
          rw [hx1] at hq1
          obtain ⟨hy1, rfl⟩ := hq1
          have hltO_ := HO8.out.lt
          have qO0 := HO8.out.c 0 _ rfl
          have qO1 := HO8.out.c 1 _ rfl
          have qO2 := HO8.out.c 2 _ rfl
          have qO3 := HO8.out.c 3 _ rfl
          have qO4 := HO8.out.c 4 _ rfl
          have qO5 := HO8.out.c 5 _ rfl
          have qO6 := HO8.out.c 6 _ rfl
          have qO7 := HO8.out.c 7 _ rfl
          have qO8 := HO8.out.c 8 _ rfl
          have qO9 := HO8.out.c 9 _ rfl
          have qO10 := HO8.out.c 10 _ rfl
          go_wp2_with (fail)
          have HB9 := Lib.hid (Below.next HB8.out (box1 w8 (.cells #[.int .i64 0, .int .i64 0, .string ⟨#[]⟩, .int .i64 0, .int .i64 0, .slice none 0 0, .int .i64 0] 36)))
          have HE9 := Lib.hid (HE8.out.next (box1 w8 (.cells #[.int .i64 0, .int .i64 0, .string ⟨#[]⟩, .int .i64 0, .int .i64 0, .slice none 0 0, .int .i64 0] 36)))
          have HO9 := Lib.hid (HO8.out.next (box1 w8 (.cells #[.int .i64 0, .int .i64 0, .string ⟨#[]⟩, .int .i64 0, .int .i64 0, .slice none 0 0, .int .i64 0] 36)))
          have HP9 := Lib.hid (HP8.out.next (box1 w8 (.cells #[.int .i64 0, .int .i64 0, .string ⟨#[]⟩, .int .i64 0, .int .i64 0, .slice none 0 0, .int .i64 0] 36)))
          have HRA9 : Hid (Blk (w8.alloc (.cells #[.int .i64 0, .int .i64 0, .string ⟨#[]⟩, .int .i64 0, .int .i64 0, .slice none 0 0, .int .i64 0] 36)) w8.heap.size [.int .i64 0, .int .i64 0, .string ⟨#[]⟩, .int .i64 0, .int .i64 0, .slice none 0 0, .int .i64 0]) := Blk.made w8 36 [.int .i64 0, .int .i64 0, .string ⟨#[]⟩, .int .i64 0, .int .i64 0, .slice none 0 0, .int .i64 0] rfl
          obtain ⟨w9, hw9⟩ : ∃ w9, w8.alloc (.cells #[.int .i64 0, .int .i64 0, .string ⟨#[]⟩, .int .i64 0, .int .i64 0, .slice none 0 0, .int .i64 0] 36) = w9 := ⟨_, rfl⟩
          rw [hw9] at HB9 HE9 HO9 HP9 HRA9
          rw [hw9]
          obtain ⟨bRA, hbRA⟩ : ∃ b, w8.heap.size = b := ⟨_, rfl⟩
          rw [hbRA] at HRA9
          simp only [hbRA]
          clear HB8 HE8 HO8 HP8 hltO_ qO0 qO1 qO2 qO3 qO4 qO5 qO6 qO7 qO8 qO9 qO10 hw9 hbRA
          have hltO_ := HO9.out.lt
          have qO0 := HO9.out.c 0 _ rfl
          have qO1 := HO9.out.c 1 _ rfl
          have qO2 := HO9.out.c 2 _ rfl
          have qO3 := HO9.out.c 3 _ rfl
          have qO4 := HO9.out.c 4 _ rfl
          have qO5 := HO9.out.c 5 _ rfl
          have qO6 := HO9.out.c 6 _ rfl
          have qO7 := HO9.out.c 7 _ rfl
          have qO8 := HO9.out.c 8 _ rfl
          have qO9 := HO9.out.c 9 _ rfl
          have qO10 := HO9.out.c 10 _ rfl
          refine (HRU.out k v a2 ((q : Int) % 3000) _ HB9.out Ap cp HP9.out (by omega)).mono ?_
          rintro e w10 ⟨hb, hq2⟩
          have HB10 := Lib.hid (Below.next HB9.out hb)
          have HE10 := Lib.hid (HE9.out.next hb)
          have HO10 := Lib.hid (HO9.out.next hb)
          have HP10 := Lib.hid (HP9.out.next hb)
          have HRA10 := Lib.hid (HRA9.out.next hb)
          clear HB9 HE9 HO9 HP9 HRA9 hltO_ qO0 qO1 qO2 qO3 qO4 qO5 qO6 qO7 qO8 qO9 qO10 hb
          rw [hx2] at hq2
          obtain ⟨_, rfl⟩ := hq2
          have hltRA_ := HRA10.out.lt
          have qRA0 := HRA10.out.c 0 _ rfl
          have qRA1 := HRA10.out.c 1 _ rfl
          have qRA2 := HRA10.out.c 2 _ rfl
          have qRA3 := HRA10.out.c 3 _ rfl
          have qRA4 := HRA10.out.c 4 _ rfl
          have qRA5 := HRA10.out.c 5 _ rfl
          have qRA6 := HRA10.out.c 6 _ rfl
          have hEV : ∀ W, (binOp .eql 26 (.agg #[.int .i64 vz.k, .int .i64 vz.n, .string (tx vz.s), .int .i64 vz.x, .int .i64 vz.y]) (.agg #[.int .i64 vz.k, .int .i64 vz.n, .string (tx vz.s), .int .i64 vz.x, .int .i64 vz.y])).run Tryz.prog W = .ok (.bool true) W := fun W => eql_va vz vz W
          change ∀ W, (binOp .eql 26 (.agg #[.int .i64 0, .int .i64 0, .string ⟨#[]⟩, .int .i64 0, .int .i64 0]) (.agg #[.int .i64 0, .int .i64 0, .string ⟨#[]⟩, .int .i64 0, .int .i64 0])).run Tryz.prog W = .ok (.bool true) W at hEV
          by_cases hy3 : x = 1
          · subst hy3
            go_wp2_with (fail)
            go_ret
            exact ⟨by simp, Below.next HB10.out (box1 _ _)⟩
          · have hy4 : (x == 1) = false := by simpa using hy3
            go_wp2_with (fail)
            have HB11 := Lib.hid (Below.next HB10.out (box1 w10 (.cells #[.int .i64 0, .int .i64 0, .string ⟨#[]⟩, .int .i64 0, .int .i64 0, .slice none 0 0, .int .i64 0] 36)))
            have HE11 := Lib.hid (HE10.out.next (box1 w10 (.cells #[.int .i64 0, .int .i64 0, .string ⟨#[]⟩, .int .i64 0, .int .i64 0, .slice none 0 0, .int .i64 0] 36)))
            have HO11 := Lib.hid (HO10.out.next (box1 w10 (.cells #[.int .i64 0, .int .i64 0, .string ⟨#[]⟩, .int .i64 0, .int .i64 0, .slice none 0 0, .int .i64 0] 36)))
            have HP11 := Lib.hid (HP10.out.next (box1 w10 (.cells #[.int .i64 0, .int .i64 0, .string ⟨#[]⟩, .int .i64 0, .int .i64 0, .slice none 0 0, .int .i64 0] 36)))
            have HRA11 := Lib.hid (HRA10.out.next (box1 w10 (.cells #[.int .i64 0, .int .i64 0, .string ⟨#[]⟩, .int .i64 0, .int .i64 0, .slice none 0 0, .int .i64 0] 36)))
            have HRB11 : Hid (Blk (w10.alloc (.cells #[.int .i64 0, .int .i64 0, .string ⟨#[]⟩, .int .i64 0, .int .i64 0, .slice none 0 0, .int .i64 0] 36)) w10.heap.size [.int .i64 0, .int .i64 0, .string ⟨#[]⟩, .int .i64 0, .int .i64 0, .slice none 0 0, .int .i64 0]) := Blk.made w10 36 [.int .i64 0, .int .i64 0, .string ⟨#[]⟩, .int .i64 0, .int .i64 0, .slice none 0 0, .int .i64 0] rfl
            obtain ⟨w11, hw11⟩ : ∃ w11, w10.alloc (.cells #[.int .i64 0, .int .i64 0, .string ⟨#[]⟩, .int .i64 0, .int .i64 0, .slice none 0 0, .int .i64 0] 36) = w11 := ⟨_, rfl⟩
            rw [hw11] at HB11 HE11 HO11 HP11 HRA11 HRB11
            rw [hw11]
            obtain ⟨bRB, hbRB⟩ : ∃ b, w10.heap.size = b := ⟨_, rfl⟩
            rw [hbRB] at HRB11
            simp only [hbRB]
            clear HB10 HE10 HO10 HP10 HRA10 hltRA_ qRA0 qRA1 qRA2 qRA3 qRA4 qRA5 qRA6 hw11 hbRB
            refine (same_pairs [] none none 0 0 _ (fun h => absurd h (by decide)) (fun h => absurd h (by decide)) (by decide)).mono ?_
            rintro e w12 ⟨rfl, hb⟩
            have HB12 := Lib.hid (Below.next HB11.out hb)
            have HE12 := Lib.hid (HE11.out.next hb)
            have HO12 := Lib.hid (HO11.out.next hb)
            have HP12 := Lib.hid (HP11.out.next hb)
            have HRA12 := Lib.hid (HRA11.out.next hb)
            have HRB12 := Lib.hid (HRB11.out.next hb)
            clear HB11 HE11 HO11 HP11 HRA11 HRB11  hb
            go_wp2_with (fail)
            go_ret
            exact ⟨by simp, HB12.out⟩
        · skip
          have hSo := (rnX_left hx1).2.2.1
          have hltE_ := HE7.out.lt
          have qE0 := HE7.out.c 0 _ rfl
          have qE1 := HE7.out.c 1 _ rfl
          have qE2 := HE7.out.c 2 _ rfl
          have qE3 := HE7.out.c 3 _ rfl
          have qE4 := HE7.out.c 4 _ rfl
          have qE5 := HE7.out.c 5 _ rfl
          have qE6 := HE7.out.c 6 _ rfl
          have qE7 := HE7.out.c 7 _ rfl
          have qE8 := HE7.out.c 8 _ rfl
          have qE9 := HE7.out.c 9 _ rfl
          have qE10 := HE7.out.c 10 _ rfl
          refine (HRU.out k v a ((q : Int) % 3000) _ HB7.out Ap cp HP7.out (by omega)).mono ?_
          rintro e w8 ⟨hb, hq1⟩
          have HB8 := Lib.hid (Below.next HB7.out hb)
          have HE8 := Lib.hid (HE7.out.next hb)
          have HO8 := Lib.hid (HO7.out.next hb)
          have HP8 := Lib.hid (HP7.out.next hb)
          clear HB7 HE7 HO7 HP7 hltE_ qE0 qE1 qE2 qE3 qE4 qE5 qE6 qE7 qE8 qE9 qE10 hb
          rw [hx1] at hq1
          obtain ⟨Ao, co, ho, rfl⟩ := hq1
          have HS8 : Hid (Prs w8 Ao S.out) := Prs.of_own ho
          clear ho
          have hltO_ := HO8.out.lt
          have qO0 := HO8.out.c 0 _ rfl
          have qO1 := HO8.out.c 1 _ rfl
          have qO2 := HO8.out.c 2 _ rfl
          have qO3 := HO8.out.c 3 _ rfl
          have qO4 := HO8.out.c 4 _ rfl
          have qO5 := HO8.out.c 5 _ rfl
          have qO6 := HO8.out.c 6 _ rfl
          have qO7 := HO8.out.c 7 _ rfl
          have qO8 := HO8.out.c 8 _ rfl
          have qO9 := HO8.out.c 9 _ rfl
          have qO10 := HO8.out.c 10 _ rfl
          go_wp2_with (fail)
          have HB9 := Lib.hid (Below.next HB8.out (box1 w8 (.cells #[.int .i64 u.k, .int .i64 u.n, .string (tx u.s), .int .i64 u.x, .int .i64 u.y, .slice Ao S.out.length co, .int .i64 (m : Int)] 36)))
          have HE9 := Lib.hid (HE8.out.next (box1 w8 (.cells #[.int .i64 u.k, .int .i64 u.n, .string (tx u.s), .int .i64 u.x, .int .i64 u.y, .slice Ao S.out.length co, .int .i64 (m : Int)] 36)))
          have HO9 := Lib.hid (HO8.out.next (box1 w8 (.cells #[.int .i64 u.k, .int .i64 u.n, .string (tx u.s), .int .i64 u.x, .int .i64 u.y, .slice Ao S.out.length co, .int .i64 (m : Int)] 36)))
          have HP9 := Lib.hid (HP8.out.next (box1 w8 (.cells #[.int .i64 u.k, .int .i64 u.n, .string (tx u.s), .int .i64 u.x, .int .i64 u.y, .slice Ao S.out.length co, .int .i64 (m : Int)] 36)))
          have HS9 := Lib.hid (HS8.out.next (box1 w8 (.cells #[.int .i64 u.k, .int .i64 u.n, .string (tx u.s), .int .i64 u.x, .int .i64 u.y, .slice Ao S.out.length co, .int .i64 (m : Int)] 36)))
          have HRA9 : Hid (Blk (w8.alloc (.cells #[.int .i64 u.k, .int .i64 u.n, .string (tx u.s), .int .i64 u.x, .int .i64 u.y, .slice Ao S.out.length co, .int .i64 (m : Int)] 36)) w8.heap.size [.int .i64 u.k, .int .i64 u.n, .string (tx u.s), .int .i64 u.x, .int .i64 u.y, .slice Ao S.out.length co, .int .i64 (m : Int)]) := Blk.made w8 36 [.int .i64 u.k, .int .i64 u.n, .string (tx u.s), .int .i64 u.x, .int .i64 u.y, .slice Ao S.out.length co, .int .i64 (m : Int)] rfl
          obtain ⟨w9, hw9⟩ : ∃ w9, w8.alloc (.cells #[.int .i64 u.k, .int .i64 u.n, .string (tx u.s), .int .i64 u.x, .int .i64 u.y, .slice Ao S.out.length co, .int .i64 (m : Int)] 36) = w9 := ⟨_, rfl⟩
          rw [hw9] at HB9 HE9 HO9 HP9 HS9 HRA9
          rw [hw9]
          obtain ⟨bRA, hbRA⟩ : ∃ b, w8.heap.size = b := ⟨_, rfl⟩
          rw [hbRA] at HRA9
          simp only [hbRA]
          clear HB8 HE8 HO8 HP8 HS8 hltO_ qO0 qO1 qO2 qO3 qO4 qO5 qO6 qO7 qO8 qO9 qO10 hw9 hbRA
          have hltO_ := HO9.out.lt
          have qO0 := HO9.out.c 0 _ rfl
          have qO1 := HO9.out.c 1 _ rfl
          have qO2 := HO9.out.c 2 _ rfl
          have qO3 := HO9.out.c 3 _ rfl
          have qO4 := HO9.out.c 4 _ rfl
          have qO5 := HO9.out.c 5 _ rfl
          have qO6 := HO9.out.c 6 _ rfl
          have qO7 := HO9.out.c 7 _ rfl
          have qO8 := HO9.out.c 8 _ rfl
          have qO9 := HO9.out.c 9 _ rfl
          have qO10 := HO9.out.c 10 _ rfl
          refine (HRU.out k v a2 ((q : Int) % 3000) _ HB9.out Ap cp HP9.out (by omega)).mono ?_
          rintro e w10 ⟨hb, hq2⟩
          have HB10 := Lib.hid (Below.next HB9.out hb)
          have HE10 := Lib.hid (HE9.out.next hb)
          have HO10 := Lib.hid (HO9.out.next hb)
          have HP10 := Lib.hid (HP9.out.next hb)
          have HS10 := Lib.hid (HS9.out.next hb)
          have HRA10 := Lib.hid (HRA9.out.next hb)
          clear HB9 HE9 HO9 HP9 HS9 HRA9 hltO_ qO0 qO1 qO2 qO3 qO4 qO5 qO6 qO7 qO8 qO9 qO10 hb
          rw [hx2] at hq2
          obtain ⟨Ao2, co2, ho, rfl⟩ := hq2
          rw [hSS] at ho ⊢
          have HT10 : Hid (Prs w10 Ao2 S.out) := Prs.of_own ho
          clear ho
          have hltRA_ := HRA10.out.lt
          have qRA0 := HRA10.out.c 0 _ rfl
          have qRA1 := HRA10.out.c 1 _ rfl
          have qRA2 := HRA10.out.c 2 _ rfl
          have qRA3 := HRA10.out.c 3 _ rfl
          have qRA4 := HRA10.out.c 4 _ rfl
          have qRA5 := HRA10.out.c 5 _ rfl
          have qRA6 := HRA10.out.c 6 _ rfl
          have hEV : ∀ W, (binOp .eql 26 (.agg #[.int .i64 u.k, .int .i64 u.n, .string (tx u.s), .int .i64 u.x, .int .i64 u.y]) (.agg #[.int .i64 u.k, .int .i64 u.n, .string (tx u.s), .int .i64 u.x, .int .i64 u.y])).run Tryz.prog W = .ok (.bool true) W := fun W => by
            have h := eql_va u u W
            rwa [show decide (u = u) = true from decide_eq_true rfl] at h
          go_wp2_with (fail)
          have HB11 := Lib.hid (Below.next HB10.out (box1 w10 (.cells #[.int .i64 u.k, .int .i64 u.n, .string (tx u.s), .int .i64 u.x, .int .i64 u.y, .slice Ao2 S.out.length co2, .int .i64 (m : Int)] 36)))
          have HE11 := Lib.hid (HE10.out.next (box1 w10 (.cells #[.int .i64 u.k, .int .i64 u.n, .string (tx u.s), .int .i64 u.x, .int .i64 u.y, .slice Ao2 S.out.length co2, .int .i64 (m : Int)] 36)))
          have HO11 := Lib.hid (HO10.out.next (box1 w10 (.cells #[.int .i64 u.k, .int .i64 u.n, .string (tx u.s), .int .i64 u.x, .int .i64 u.y, .slice Ao2 S.out.length co2, .int .i64 (m : Int)] 36)))
          have HP11 := Lib.hid (HP10.out.next (box1 w10 (.cells #[.int .i64 u.k, .int .i64 u.n, .string (tx u.s), .int .i64 u.x, .int .i64 u.y, .slice Ao2 S.out.length co2, .int .i64 (m : Int)] 36)))
          have HS11 := Lib.hid (HS10.out.next (box1 w10 (.cells #[.int .i64 u.k, .int .i64 u.n, .string (tx u.s), .int .i64 u.x, .int .i64 u.y, .slice Ao2 S.out.length co2, .int .i64 (m : Int)] 36)))
          have HRA11 := Lib.hid (HRA10.out.next (box1 w10 (.cells #[.int .i64 u.k, .int .i64 u.n, .string (tx u.s), .int .i64 u.x, .int .i64 u.y, .slice Ao2 S.out.length co2, .int .i64 (m : Int)] 36)))
          have HT11 := Lib.hid (HT10.out.next (box1 w10 (.cells #[.int .i64 u.k, .int .i64 u.n, .string (tx u.s), .int .i64 u.x, .int .i64 u.y, .slice Ao2 S.out.length co2, .int .i64 (m : Int)] 36)))
          have HRB11 : Hid (Blk (w10.alloc (.cells #[.int .i64 u.k, .int .i64 u.n, .string (tx u.s), .int .i64 u.x, .int .i64 u.y, .slice Ao2 S.out.length co2, .int .i64 (m : Int)] 36)) w10.heap.size [.int .i64 u.k, .int .i64 u.n, .string (tx u.s), .int .i64 u.x, .int .i64 u.y, .slice Ao2 S.out.length co2, .int .i64 (m : Int)]) := Blk.made w10 36 [.int .i64 u.k, .int .i64 u.n, .string (tx u.s), .int .i64 u.x, .int .i64 u.y, .slice Ao2 S.out.length co2, .int .i64 (m : Int)] rfl
          obtain ⟨w11, hw11⟩ : ∃ w11, w10.alloc (.cells #[.int .i64 u.k, .int .i64 u.n, .string (tx u.s), .int .i64 u.x, .int .i64 u.y, .slice Ao2 S.out.length co2, .int .i64 (m : Int)] 36) = w11 := ⟨_, rfl⟩
          rw [hw11] at HB11 HE11 HO11 HP11 HS11 HRA11 HT11 HRB11
          rw [hw11]
          obtain ⟨bRB, hbRB⟩ : ∃ b, w10.heap.size = b := ⟨_, rfl⟩
          rw [hbRB] at HRB11
          simp only [hbRB]
          clear HB10 HE10 HO10 HP10 HS10 HRA10 HT10 hltRA_ qRA0 qRA1 qRA2 qRA3 qRA4 qRA5 qRA6 hw11 hbRB
          refine (same_pairs S.out Ao Ao2 co co2 _ HS11.out HT11.out (by omega)).mono ?_
          rintro e w12 ⟨rfl, hb⟩
          have HB12 := Lib.hid (Below.next HB11.out hb)
          have HE12 := Lib.hid (HE11.out.next hb)
          have HO12 := Lib.hid (HO11.out.next hb)
          have HP12 := Lib.hid (HP11.out.next hb)
          have HS12 := Lib.hid (HS11.out.next hb)
          have HRA12 := Lib.hid (HRA11.out.next hb)
          have HT12 := Lib.hid (HT11.out.next hb)
          have HRB12 := Lib.hid (HRB11.out.next hb)
          clear HB11 HE11 HO11 HP11 HS11 HRA11 HT11 HRB11  hb
          go_wp2_with (fail)
          go_ret
          exact ⟨by simp, HB12.out⟩
      · skip
        have hltE_ := HE6.out.lt
        have qE0 := HE6.out.c 0 _ rfl
        have qE1 := HE6.out.c 1 _ rfl
        have qE2 := HE6.out.c 2 _ rfl
        have qE3 := HE6.out.c 3 _ rfl
        have qE4 := HE6.out.c 4 _ rfl
        have qE5 := HE6.out.c 5 _ rfl
        have qE6 := HE6.out.c 6 _ rfl
        have qE7 := HE6.out.c 7 _ rfl
        have qE8 := HE6.out.c 8 _ rfl
        have qE9 := HE6.out.c 9 _ rfl
        have qE10 := HE6.out.c 10 _ rfl
        have hltO_ := HO6.out.lt
        have qO0 := HO6.out.c 0 _ rfl
        have qO1 := HO6.out.c 1 _ rfl
        have qO2 := HO6.out.c 2 _ rfl
        have qO3 := HO6.out.c 3 _ rfl
        have qO4 := HO6.out.c 4 _ rfl
        have qO5 := HO6.out.c 5 _ rfl
        have qO6 := HO6.out.c 6 _ rfl
        have qO7 := HO6.out.c 7 _ rfl
        have qO8 := HO6.out.c 8 _ rfl
        have qO9 := HO6.out.c 9 _ rfl
        have qO10 := HO6.out.c 10 _ rfl
        have z0 := HO6.out.f 0 _ rfl
        have z1 := HO6.out.f 1 _ rfl
        have z2 := HO6.out.f 2 _ rfl
        have z3 := HO6.out.f 3 _ rfl
        have z4 := HO6.out.f 4 _ rfl
        have z5 := HO6.out.f 5 _ rfl
        have z6 := HO6.out.f 6 _ rfl
        have z7 := HO6.out.f 7 _ rfl
        have z8 := HO6.out.f 8 _ rfl
        have z9 := HO6.out.f 9 _ rfl
        have z10 := HO6.out.f 10 _ rfl
        go_wp2_with (fail)
        have hb9 := (below_puts (B := w.heap.size + 1) [.int .i64 a.k, .int .i64 a.n, .string (tx a.s), .int .i64 a.x, .int .i64 a.y] 6 (below_puts (B := w.heap.size + 1) [.int .i64 v.k, .int .i64 v.n, .string (tx v.s), .int .i64 v.x, .int .i64 v.y] 1 (below_puts (B := w.heap.size + 1) [.string (tx k)] 0 HB6.out (by omega)) (by omega)) (by omega))
        have he9 := (blk_puts_other (C := w.heap.size + 1) (by omega) [.int .i64 a.k, .int .i64 a.n, .string (tx a.s), .int .i64 a.x, .int .i64 a.y] 6 (blk_puts_other (C := w.heap.size + 1) (by omega) [.int .i64 v.k, .int .i64 v.n, .string (tx v.s), .int .i64 v.x, .int .i64 v.y] 1 (blk_puts_other (C := w.heap.size + 1) (by omega) [.string (tx k)] 0 HE6.out)))
        have ho9 := (blk_puts [.int .i64 a.k, .int .i64 a.n, .string (tx a.s), .int .i64 a.x, .int .i64 a.y] 6 (blk_puts [.int .i64 v.k, .int .i64 v.n, .string (tx v.s), .int .i64 v.x, .int .i64 v.y] 1 (blk_puts [.string (tx k)] 0 HO6.out (by simp)) (by simp)) (by simp))
        have hp9 := (nds_puts (C := w.heap.size + 1) [.int .i64 a.k, .int .i64 a.n, .string (tx a.s), .int .i64 a.x, .int .i64 a.y] 6 (nds_puts (C := w.heap.size + 1) [.int .i64 v.k, .int .i64 v.n, .string (tx v.s), .int .i64 v.x, .int .i64 v.y] 1 (nds_puts (C := w.heap.size + 1) [.string (tx k)] 0 HP6.out HPF.out) HPF.out) HPF.out)
        change Blk _ _ [.string (tx k), .int .i64 v.k, .int .i64 v.n, .string (tx v.s), .int .i64 v.x, .int .i64 v.y, .int .i64 a.k, .int .i64 a.n, .string (tx a.s), .int .i64 a.x, .int .i64 a.y] at ho9
        change Calls _ _ _ ((putL (putL (putL w6 (w.heap.size + 1) 0 [.string (tx k)]) (w.heap.size + 1) 1 [.int .i64 v.k, .int .i64 v.n, .string (tx v.s), .int .i64 v.x, .int .i64 v.y]) (w.heap.size + 1) 6 [.int .i64 a.k, .int .i64 a.n, .string (tx a.s), .int .i64 a.x, .int .i64 a.y]).alloc (.cells #[.bool true, .bool true, .bool true, .bool n3, .bool n4] 52)) _
        obtain ⟨x9, hx9⟩ : ∃ x9, (putL (putL (putL w6 (w.heap.size + 1) 0 [.string (tx k)]) (w.heap.size + 1) 1 [.int .i64 v.k, .int .i64 v.n, .string (tx v.s), .int .i64 v.x, .int .i64 v.y]) (w.heap.size + 1) 6 [.int .i64 a.k, .int .i64 a.n, .string (tx a.s), .int .i64 a.x, .int .i64 a.y]) = x9 := ⟨_, rfl⟩
        rw [hx9] at hb9 he9 ho9 hp9 ⊢
        clear hx9
        have HB7 := Lib.hid (Below.next hb9 (box1 x9 (.cells #[.bool true, .bool true, .bool true, .bool n3, .bool n4] 52))); have HE7 := Lib.hid (he9.old (.cells #[.bool true, .bool true, .bool true, .bool n3, .bool n4] 52)); have HO7 := Lib.hid (ho9.old (.cells #[.bool true, .bool true, .bool true, .bool n3, .bool n4] 52)); have HP7 := Lib.hid (hp9.next (box1 x9 (.cells #[.bool true, .bool true, .bool true, .bool n3, .bool n4] 52)))
        obtain ⟨w7, hw7⟩ : ∃ w7, x9.alloc (.cells #[.bool true, .bool true, .bool true, .bool n3, .bool n4] 52) = w7 := ⟨_, rfl⟩
        rw [hw7] at HB7 HE7 HO7 HP7 ⊢
        clear HB6 HE6 HO6 HP6 hltE_ qE0 qE1 qE2 qE3 qE4 qE5 qE6 qE7 qE8 qE9 qE10 hltO_ qO0 qO1 qO2 qO3 qO4 qO5 qO6 qO7 qO8 qO9 qO10 z0 z1 z2 z3 z4 z5 z6 z7 z8 z9 z10 hb9 he9 ho9 hp9 hw7
        have htwo := names_two (HALI.out k v a (fun _ => rfl) (fun _ => rfl) (fun _ => rfl)) ((q : Int) % 3000)
        rcases htwo with htwo | ⟨x, hx1, hx2⟩ | ⟨u, S, S2, m, hx1, hx2, hSS⟩
        · have hx1 := htwo.elim id id
          clear htwo
          have hltE_ := HE7.out.lt
          have qE0 := HE7.out.c 0 _ rfl
          have qE1 := HE7.out.c 1 _ rfl
          have qE2 := HE7.out.c 2 _ rfl
          have qE3 := HE7.out.c 3 _ rfl
          have qE4 := HE7.out.c 4 _ rfl
          have qE5 := HE7.out.c 5 _ rfl
          have qE6 := HE7.out.c 6 _ rfl
          have qE7 := HE7.out.c 7 _ rfl
          have qE8 := HE7.out.c 8 _ rfl
          have qE9 := HE7.out.c 9 _ rfl
          have qE10 := HE7.out.c 10 _ rfl
          refine (HRU.out k v a ((q : Int) % 3000) _ HB7.out Ap cp HP7.out (by omega)).mono ?_
          rintro e w8 ⟨hb, hq1⟩
          have HB8 := Lib.hid (Below.next HB7.out hb)
          have HE8 := Lib.hid (HE7.out.next hb)
          have HO8 := Lib.hid (HO7.out.next hb)
          have HP8 := Lib.hid (HP7.out.next hb)
          clear HB7 HE7 HO7 HP7 hltE_ qE0 qE1 qE2 qE3 qE4 qE5 qE6 qE7 qE8 qE9 qE10 hb
          rw [hx1] at hq1
          obtain ⟨_, rfl⟩ := hq1
          have hltO_ := HO8.out.lt
          have qO0 := HO8.out.c 0 _ rfl
          have qO1 := HO8.out.c 1 _ rfl
          have qO2 := HO8.out.c 2 _ rfl
          have qO3 := HO8.out.c 3 _ rfl
          have qO4 := HO8.out.c 4 _ rfl
          have qO5 := HO8.out.c 5 _ rfl
          have qO6 := HO8.out.c 6 _ rfl
          have qO7 := HO8.out.c 7 _ rfl
          have qO8 := HO8.out.c 8 _ rfl
          have qO9 := HO8.out.c 9 _ rfl
          have qO10 := HO8.out.c 10 _ rfl
          go_wp2_with (fail)
          have HB9 := Lib.hid (Below.next HB8.out (box1 w8 (.cells #[.int .i64 0, .int .i64 0, .string ⟨#[]⟩, .int .i64 0, .int .i64 0, .slice none 0 0, .int .i64 0] 36)))
          have HE9 := Lib.hid (HE8.out.next (box1 w8 (.cells #[.int .i64 0, .int .i64 0, .string ⟨#[]⟩, .int .i64 0, .int .i64 0, .slice none 0 0, .int .i64 0] 36)))
          have HO9 := Lib.hid (HO8.out.next (box1 w8 (.cells #[.int .i64 0, .int .i64 0, .string ⟨#[]⟩, .int .i64 0, .int .i64 0, .slice none 0 0, .int .i64 0] 36)))
          have HP9 := Lib.hid (HP8.out.next (box1 w8 (.cells #[.int .i64 0, .int .i64 0, .string ⟨#[]⟩, .int .i64 0, .int .i64 0, .slice none 0 0, .int .i64 0] 36)))
          have HRA9 : Hid (Blk (w8.alloc (.cells #[.int .i64 0, .int .i64 0, .string ⟨#[]⟩, .int .i64 0, .int .i64 0, .slice none 0 0, .int .i64 0] 36)) w8.heap.size [.int .i64 0, .int .i64 0, .string ⟨#[]⟩, .int .i64 0, .int .i64 0, .slice none 0 0, .int .i64 0]) := Blk.made w8 36 [.int .i64 0, .int .i64 0, .string ⟨#[]⟩, .int .i64 0, .int .i64 0, .slice none 0 0, .int .i64 0] rfl
          obtain ⟨w9, hw9⟩ : ∃ w9, w8.alloc (.cells #[.int .i64 0, .int .i64 0, .string ⟨#[]⟩, .int .i64 0, .int .i64 0, .slice none 0 0, .int .i64 0] 36) = w9 := ⟨_, rfl⟩
          rw [hw9] at HB9 HE9 HO9 HP9 HRA9
          rw [hw9]
          obtain ⟨bRA, hbRA⟩ : ∃ b, w8.heap.size = b := ⟨_, rfl⟩
          rw [hbRA] at HRA9
          simp only [hbRA]
          clear HB8 HE8 HO8 HP8 hltO_ qO0 qO1 qO2 qO3 qO4 qO5 qO6 qO7 qO8 qO9 qO10 hw9 hbRA
          have hltO_ := HO9.out.lt
          have qO0 := HO9.out.c 0 _ rfl
          have qO1 := HO9.out.c 1 _ rfl
          have qO2 := HO9.out.c 2 _ rfl
          have qO3 := HO9.out.c 3 _ rfl
          have qO4 := HO9.out.c 4 _ rfl
          have qO5 := HO9.out.c 5 _ rfl
          have qO6 := HO9.out.c 6 _ rfl
          have qO7 := HO9.out.c 7 _ rfl
          have qO8 := HO9.out.c 8 _ rfl
          have qO9 := HO9.out.c 9 _ rfl
          have qO10 := HO9.out.c 10 _ rfl
          refine (HRU.out k v a ((q : Int) % 3000) _ HB9.out Ap cp HP9.out (by omega)).mono ?_
          rintro e w10 ⟨hb, hq2⟩
          have HB10 := Lib.hid (Below.next HB9.out hb)
          have HE10 := Lib.hid (HE9.out.next hb)
          have HO10 := Lib.hid (HO9.out.next hb)
          have HP10 := Lib.hid (HP9.out.next hb)
          have HRA10 := Lib.hid (HRA9.out.next hb)
          clear HB9 HE9 HO9 HP9 HRA9 hltO_ qO0 qO1 qO2 qO3 qO4 qO5 qO6 qO7 qO8 qO9 qO10 hb
          rw [hx1] at hq2
          obtain ⟨_, rfl⟩ := hq2
          go_wp2_with (fail)
          go_ret
          exact ⟨by simp, Below.next HB10.out (box1 _ _)⟩
        · skip
          have hltE_ := HE7.out.lt
          have qE0 := HE7.out.c 0 _ rfl
          have qE1 := HE7.out.c 1 _ rfl
          have qE2 := HE7.out.c 2 _ rfl
          have qE3 := HE7.out.c 3 _ rfl
          have qE4 := HE7.out.c 4 _ rfl
          have qE5 := HE7.out.c 5 _ rfl
          have qE6 := HE7.out.c 6 _ rfl
          have qE7 := HE7.out.c 7 _ rfl
          have qE8 := HE7.out.c 8 _ rfl
          have qE9 := HE7.out.c 9 _ rfl
          have qE10 := HE7.out.c 10 _ rfl
          refine (HRU.out k v a ((q : Int) % 3000) _ HB7.out Ap cp HP7.out (by omega)).mono ?_
          rintro e w8 ⟨hb, hq1⟩
          have HB8 := Lib.hid (Below.next HB7.out hb)
          have HE8 := Lib.hid (HE7.out.next hb)
          have HO8 := Lib.hid (HO7.out.next hb)
          have HP8 := Lib.hid (HP7.out.next hb)
          clear HB7 HE7 HO7 HP7 hltE_ qE0 qE1 qE2 qE3 qE4 qE5 qE6 qE7 qE8 qE9 qE10 hb
          rw [hx1] at hq1
          obtain ⟨hy1, rfl⟩ := hq1
          have hltO_ := HO8.out.lt
          have qO0 := HO8.out.c 0 _ rfl
          have qO1 := HO8.out.c 1 _ rfl
          have qO2 := HO8.out.c 2 _ rfl
          have qO3 := HO8.out.c 3 _ rfl
          have qO4 := HO8.out.c 4 _ rfl
          have qO5 := HO8.out.c 5 _ rfl
          have qO6 := HO8.out.c 6 _ rfl
          have qO7 := HO8.out.c 7 _ rfl
          have qO8 := HO8.out.c 8 _ rfl
          have qO9 := HO8.out.c 9 _ rfl
          have qO10 := HO8.out.c 10 _ rfl
          go_wp2_with (fail)
          have HB9 := Lib.hid (Below.next HB8.out (box1 w8 (.cells #[.int .i64 0, .int .i64 0, .string ⟨#[]⟩, .int .i64 0, .int .i64 0, .slice none 0 0, .int .i64 0] 36)))
          have HE9 := Lib.hid (HE8.out.next (box1 w8 (.cells #[.int .i64 0, .int .i64 0, .string ⟨#[]⟩, .int .i64 0, .int .i64 0, .slice none 0 0, .int .i64 0] 36)))
          have HO9 := Lib.hid (HO8.out.next (box1 w8 (.cells #[.int .i64 0, .int .i64 0, .string ⟨#[]⟩, .int .i64 0, .int .i64 0, .slice none 0 0, .int .i64 0] 36)))
          have HP9 := Lib.hid (HP8.out.next (box1 w8 (.cells #[.int .i64 0, .int .i64 0, .string ⟨#[]⟩, .int .i64 0, .int .i64 0, .slice none 0 0, .int .i64 0] 36)))
          have HRA9 : Hid (Blk (w8.alloc (.cells #[.int .i64 0, .int .i64 0, .string ⟨#[]⟩, .int .i64 0, .int .i64 0, .slice none 0 0, .int .i64 0] 36)) w8.heap.size [.int .i64 0, .int .i64 0, .string ⟨#[]⟩, .int .i64 0, .int .i64 0, .slice none 0 0, .int .i64 0]) := Blk.made w8 36 [.int .i64 0, .int .i64 0, .string ⟨#[]⟩, .int .i64 0, .int .i64 0, .slice none 0 0, .int .i64 0] rfl
          obtain ⟨w9, hw9⟩ : ∃ w9, w8.alloc (.cells #[.int .i64 0, .int .i64 0, .string ⟨#[]⟩, .int .i64 0, .int .i64 0, .slice none 0 0, .int .i64 0] 36) = w9 := ⟨_, rfl⟩
          rw [hw9] at HB9 HE9 HO9 HP9 HRA9
          rw [hw9]
          obtain ⟨bRA, hbRA⟩ : ∃ b, w8.heap.size = b := ⟨_, rfl⟩
          rw [hbRA] at HRA9
          simp only [hbRA]
          clear HB8 HE8 HO8 HP8 hltO_ qO0 qO1 qO2 qO3 qO4 qO5 qO6 qO7 qO8 qO9 qO10 hw9 hbRA
          have hltO_ := HO9.out.lt
          have qO0 := HO9.out.c 0 _ rfl
          have qO1 := HO9.out.c 1 _ rfl
          have qO2 := HO9.out.c 2 _ rfl
          have qO3 := HO9.out.c 3 _ rfl
          have qO4 := HO9.out.c 4 _ rfl
          have qO5 := HO9.out.c 5 _ rfl
          have qO6 := HO9.out.c 6 _ rfl
          have qO7 := HO9.out.c 7 _ rfl
          have qO8 := HO9.out.c 8 _ rfl
          have qO9 := HO9.out.c 9 _ rfl
          have qO10 := HO9.out.c 10 _ rfl
          refine (HRU.out k v a ((q : Int) % 3000) _ HB9.out Ap cp HP9.out (by omega)).mono ?_
          rintro e w10 ⟨hb, hq2⟩
          have HB10 := Lib.hid (Below.next HB9.out hb)
          have HE10 := Lib.hid (HE9.out.next hb)
          have HO10 := Lib.hid (HO9.out.next hb)
          have HP10 := Lib.hid (HP9.out.next hb)
          have HRA10 := Lib.hid (HRA9.out.next hb)
          clear HB9 HE9 HO9 HP9 HRA9 hltO_ qO0 qO1 qO2 qO3 qO4 qO5 qO6 qO7 qO8 qO9 qO10 hb
          rw [hx2] at hq2
          obtain ⟨_, rfl⟩ := hq2
          have hltRA_ := HRA10.out.lt
          have qRA0 := HRA10.out.c 0 _ rfl
          have qRA1 := HRA10.out.c 1 _ rfl
          have qRA2 := HRA10.out.c 2 _ rfl
          have qRA3 := HRA10.out.c 3 _ rfl
          have qRA4 := HRA10.out.c 4 _ rfl
          have qRA5 := HRA10.out.c 5 _ rfl
          have qRA6 := HRA10.out.c 6 _ rfl
          have hEV : ∀ W, (binOp .eql 26 (.agg #[.int .i64 vz.k, .int .i64 vz.n, .string (tx vz.s), .int .i64 vz.x, .int .i64 vz.y]) (.agg #[.int .i64 vz.k, .int .i64 vz.n, .string (tx vz.s), .int .i64 vz.x, .int .i64 vz.y])).run Tryz.prog W = .ok (.bool true) W := fun W => eql_va vz vz W
          change ∀ W, (binOp .eql 26 (.agg #[.int .i64 0, .int .i64 0, .string ⟨#[]⟩, .int .i64 0, .int .i64 0]) (.agg #[.int .i64 0, .int .i64 0, .string ⟨#[]⟩, .int .i64 0, .int .i64 0])).run Tryz.prog W = .ok (.bool true) W at hEV
          by_cases hy3 : x = 1
          · subst hy3
            go_wp2_with (fail)
            go_ret
            exact ⟨by simp, Below.next HB10.out (box1 _ _)⟩
          · have hy4 : (x == 1) = false := by simpa using hy3
            go_wp2_with (fail)
            have HB11 := Lib.hid (Below.next HB10.out (box1 w10 (.cells #[.int .i64 0, .int .i64 0, .string ⟨#[]⟩, .int .i64 0, .int .i64 0, .slice none 0 0, .int .i64 0] 36)))
            have HE11 := Lib.hid (HE10.out.next (box1 w10 (.cells #[.int .i64 0, .int .i64 0, .string ⟨#[]⟩, .int .i64 0, .int .i64 0, .slice none 0 0, .int .i64 0] 36)))
            have HO11 := Lib.hid (HO10.out.next (box1 w10 (.cells #[.int .i64 0, .int .i64 0, .string ⟨#[]⟩, .int .i64 0, .int .i64 0, .slice none 0 0, .int .i64 0] 36)))
            have HP11 := Lib.hid (HP10.out.next (box1 w10 (.cells #[.int .i64 0, .int .i64 0, .string ⟨#[]⟩, .int .i64 0, .int .i64 0, .slice none 0 0, .int .i64 0] 36)))
            have HRA11 := Lib.hid (HRA10.out.next (box1 w10 (.cells #[.int .i64 0, .int .i64 0, .string ⟨#[]⟩, .int .i64 0, .int .i64 0, .slice none 0 0, .int .i64 0] 36)))
            have HRB11 : Hid (Blk (w10.alloc (.cells #[.int .i64 0, .int .i64 0, .string ⟨#[]⟩, .int .i64 0, .int .i64 0, .slice none 0 0, .int .i64 0] 36)) w10.heap.size [.int .i64 0, .int .i64 0, .string ⟨#[]⟩, .int .i64 0, .int .i64 0, .slice none 0 0, .int .i64 0]) := Blk.made w10 36 [.int .i64 0, .int .i64 0, .string ⟨#[]⟩, .int .i64 0, .int .i64 0, .slice none 0 0, .int .i64 0] rfl
            obtain ⟨w11, hw11⟩ : ∃ w11, w10.alloc (.cells #[.int .i64 0, .int .i64 0, .string ⟨#[]⟩, .int .i64 0, .int .i64 0, .slice none 0 0, .int .i64 0] 36) = w11 := ⟨_, rfl⟩
            rw [hw11] at HB11 HE11 HO11 HP11 HRA11 HRB11
            rw [hw11]
            obtain ⟨bRB, hbRB⟩ : ∃ b, w10.heap.size = b := ⟨_, rfl⟩
            rw [hbRB] at HRB11
            simp only [hbRB]
            clear HB10 HE10 HO10 HP10 HRA10 hltRA_ qRA0 qRA1 qRA2 qRA3 qRA4 qRA5 qRA6 hw11 hbRB
            refine (same_pairs [] none none 0 0 _ (fun h => absurd h (by decide)) (fun h => absurd h (by decide)) (by decide)).mono ?_
            rintro e w12 ⟨rfl, hb⟩
            have HB12 := Lib.hid (Below.next HB11.out hb)
            have HE12 := Lib.hid (HE11.out.next hb)
            have HO12 := Lib.hid (HO11.out.next hb)
            have HP12 := Lib.hid (HP11.out.next hb)
            have HRA12 := Lib.hid (HRA11.out.next hb)
            have HRB12 := Lib.hid (HRB11.out.next hb)
            clear HB11 HE11 HO11 HP11 HRA11 HRB11  hb
            go_wp2_with (fail)
            go_ret
            exact ⟨by simp, HB12.out⟩
        · skip
          have hSo := (rnX_left hx1).2.2.1
          have hltE_ := HE7.out.lt
          have qE0 := HE7.out.c 0 _ rfl
          have qE1 := HE7.out.c 1 _ rfl
          have qE2 := HE7.out.c 2 _ rfl
          have qE3 := HE7.out.c 3 _ rfl
          have qE4 := HE7.out.c 4 _ rfl
          have qE5 := HE7.out.c 5 _ rfl
          have qE6 := HE7.out.c 6 _ rfl
          have qE7 := HE7.out.c 7 _ rfl
          have qE8 := HE7.out.c 8 _ rfl
          have qE9 := HE7.out.c 9 _ rfl
          have qE10 := HE7.out.c 10 _ rfl
          refine (HRU.out k v a ((q : Int) % 3000) _ HB7.out Ap cp HP7.out (by omega)).mono ?_
          rintro e w8 ⟨hb, hq1⟩
          have HB8 := Lib.hid (Below.next HB7.out hb)
          have HE8 := Lib.hid (HE7.out.next hb)
          have HO8 := Lib.hid (HO7.out.next hb)
          have HP8 := Lib.hid (HP7.out.next hb)
          clear HB7 HE7 HO7 HP7 hltE_ qE0 qE1 qE2 qE3 qE4 qE5 qE6 qE7 qE8 qE9 qE10 hb
          rw [hx1] at hq1
          obtain ⟨Ao, co, ho, rfl⟩ := hq1
          have HS8 : Hid (Prs w8 Ao S.out) := Prs.of_own ho
          clear ho
          have hltO_ := HO8.out.lt
          have qO0 := HO8.out.c 0 _ rfl
          have qO1 := HO8.out.c 1 _ rfl
          have qO2 := HO8.out.c 2 _ rfl
          have qO3 := HO8.out.c 3 _ rfl
          have qO4 := HO8.out.c 4 _ rfl
          have qO5 := HO8.out.c 5 _ rfl
          have qO6 := HO8.out.c 6 _ rfl
          have qO7 := HO8.out.c 7 _ rfl
          have qO8 := HO8.out.c 8 _ rfl
          have qO9 := HO8.out.c 9 _ rfl
          have qO10 := HO8.out.c 10 _ rfl
          go_wp2_with (fail)
          have HB9 := Lib.hid (Below.next HB8.out (box1 w8 (.cells #[.int .i64 u.k, .int .i64 u.n, .string (tx u.s), .int .i64 u.x, .int .i64 u.y, .slice Ao S.out.length co, .int .i64 (m : Int)] 36)))
          have HE9 := Lib.hid (HE8.out.next (box1 w8 (.cells #[.int .i64 u.k, .int .i64 u.n, .string (tx u.s), .int .i64 u.x, .int .i64 u.y, .slice Ao S.out.length co, .int .i64 (m : Int)] 36)))
          have HO9 := Lib.hid (HO8.out.next (box1 w8 (.cells #[.int .i64 u.k, .int .i64 u.n, .string (tx u.s), .int .i64 u.x, .int .i64 u.y, .slice Ao S.out.length co, .int .i64 (m : Int)] 36)))
          have HP9 := Lib.hid (HP8.out.next (box1 w8 (.cells #[.int .i64 u.k, .int .i64 u.n, .string (tx u.s), .int .i64 u.x, .int .i64 u.y, .slice Ao S.out.length co, .int .i64 (m : Int)] 36)))
          have HS9 := Lib.hid (HS8.out.next (box1 w8 (.cells #[.int .i64 u.k, .int .i64 u.n, .string (tx u.s), .int .i64 u.x, .int .i64 u.y, .slice Ao S.out.length co, .int .i64 (m : Int)] 36)))
          have HRA9 : Hid (Blk (w8.alloc (.cells #[.int .i64 u.k, .int .i64 u.n, .string (tx u.s), .int .i64 u.x, .int .i64 u.y, .slice Ao S.out.length co, .int .i64 (m : Int)] 36)) w8.heap.size [.int .i64 u.k, .int .i64 u.n, .string (tx u.s), .int .i64 u.x, .int .i64 u.y, .slice Ao S.out.length co, .int .i64 (m : Int)]) := Blk.made w8 36 [.int .i64 u.k, .int .i64 u.n, .string (tx u.s), .int .i64 u.x, .int .i64 u.y, .slice Ao S.out.length co, .int .i64 (m : Int)] rfl
          obtain ⟨w9, hw9⟩ : ∃ w9, w8.alloc (.cells #[.int .i64 u.k, .int .i64 u.n, .string (tx u.s), .int .i64 u.x, .int .i64 u.y, .slice Ao S.out.length co, .int .i64 (m : Int)] 36) = w9 := ⟨_, rfl⟩
          rw [hw9] at HB9 HE9 HO9 HP9 HS9 HRA9
          rw [hw9]
          obtain ⟨bRA, hbRA⟩ : ∃ b, w8.heap.size = b := ⟨_, rfl⟩
          rw [hbRA] at HRA9
          simp only [hbRA]
          clear HB8 HE8 HO8 HP8 HS8 hltO_ qO0 qO1 qO2 qO3 qO4 qO5 qO6 qO7 qO8 qO9 qO10 hw9 hbRA
          have hltO_ := HO9.out.lt
          have qO0 := HO9.out.c 0 _ rfl
          have qO1 := HO9.out.c 1 _ rfl
          have qO2 := HO9.out.c 2 _ rfl
          have qO3 := HO9.out.c 3 _ rfl
          have qO4 := HO9.out.c 4 _ rfl
          have qO5 := HO9.out.c 5 _ rfl
          have qO6 := HO9.out.c 6 _ rfl
          have qO7 := HO9.out.c 7 _ rfl
          have qO8 := HO9.out.c 8 _ rfl
          have qO9 := HO9.out.c 9 _ rfl
          have qO10 := HO9.out.c 10 _ rfl
          refine (HRU.out k v a ((q : Int) % 3000) _ HB9.out Ap cp HP9.out (by omega)).mono ?_
          rintro e w10 ⟨hb, hq2⟩
          have HB10 := Lib.hid (Below.next HB9.out hb)
          have HE10 := Lib.hid (HE9.out.next hb)
          have HO10 := Lib.hid (HO9.out.next hb)
          have HP10 := Lib.hid (HP9.out.next hb)
          have HS10 := Lib.hid (HS9.out.next hb)
          have HRA10 := Lib.hid (HRA9.out.next hb)
          clear HB9 HE9 HO9 HP9 HS9 HRA9 hltO_ qO0 qO1 qO2 qO3 qO4 qO5 qO6 qO7 qO8 qO9 qO10 hb
          rw [hx2] at hq2
          obtain ⟨Ao2, co2, ho, rfl⟩ := hq2
          rw [hSS] at ho ⊢
          have HT10 : Hid (Prs w10 Ao2 S.out) := Prs.of_own ho
          clear ho
          have hltRA_ := HRA10.out.lt
          have qRA0 := HRA10.out.c 0 _ rfl
          have qRA1 := HRA10.out.c 1 _ rfl
          have qRA2 := HRA10.out.c 2 _ rfl
          have qRA3 := HRA10.out.c 3 _ rfl
          have qRA4 := HRA10.out.c 4 _ rfl
          have qRA5 := HRA10.out.c 5 _ rfl
          have qRA6 := HRA10.out.c 6 _ rfl
          have hEV : ∀ W, (binOp .eql 26 (.agg #[.int .i64 u.k, .int .i64 u.n, .string (tx u.s), .int .i64 u.x, .int .i64 u.y]) (.agg #[.int .i64 u.k, .int .i64 u.n, .string (tx u.s), .int .i64 u.x, .int .i64 u.y])).run Tryz.prog W = .ok (.bool true) W := fun W => by
            have h := eql_va u u W
            rwa [show decide (u = u) = true from decide_eq_true rfl] at h
          go_wp2_with (fail)
          have HB11 := Lib.hid (Below.next HB10.out (box1 w10 (.cells #[.int .i64 u.k, .int .i64 u.n, .string (tx u.s), .int .i64 u.x, .int .i64 u.y, .slice Ao2 S.out.length co2, .int .i64 (m : Int)] 36)))
          have HE11 := Lib.hid (HE10.out.next (box1 w10 (.cells #[.int .i64 u.k, .int .i64 u.n, .string (tx u.s), .int .i64 u.x, .int .i64 u.y, .slice Ao2 S.out.length co2, .int .i64 (m : Int)] 36)))
          have HO11 := Lib.hid (HO10.out.next (box1 w10 (.cells #[.int .i64 u.k, .int .i64 u.n, .string (tx u.s), .int .i64 u.x, .int .i64 u.y, .slice Ao2 S.out.length co2, .int .i64 (m : Int)] 36)))
          have HP11 := Lib.hid (HP10.out.next (box1 w10 (.cells #[.int .i64 u.k, .int .i64 u.n, .string (tx u.s), .int .i64 u.x, .int .i64 u.y, .slice Ao2 S.out.length co2, .int .i64 (m : Int)] 36)))
          have HS11 := Lib.hid (HS10.out.next (box1 w10 (.cells #[.int .i64 u.k, .int .i64 u.n, .string (tx u.s), .int .i64 u.x, .int .i64 u.y, .slice Ao2 S.out.length co2, .int .i64 (m : Int)] 36)))
          have HRA11 := Lib.hid (HRA10.out.next (box1 w10 (.cells #[.int .i64 u.k, .int .i64 u.n, .string (tx u.s), .int .i64 u.x, .int .i64 u.y, .slice Ao2 S.out.length co2, .int .i64 (m : Int)] 36)))
          have HT11 := Lib.hid (HT10.out.next (box1 w10 (.cells #[.int .i64 u.k, .int .i64 u.n, .string (tx u.s), .int .i64 u.x, .int .i64 u.y, .slice Ao2 S.out.length co2, .int .i64 (m : Int)] 36)))
          have HRB11 : Hid (Blk (w10.alloc (.cells #[.int .i64 u.k, .int .i64 u.n, .string (tx u.s), .int .i64 u.x, .int .i64 u.y, .slice Ao2 S.out.length co2, .int .i64 (m : Int)] 36)) w10.heap.size [.int .i64 u.k, .int .i64 u.n, .string (tx u.s), .int .i64 u.x, .int .i64 u.y, .slice Ao2 S.out.length co2, .int .i64 (m : Int)]) := Blk.made w10 36 [.int .i64 u.k, .int .i64 u.n, .string (tx u.s), .int .i64 u.x, .int .i64 u.y, .slice Ao2 S.out.length co2, .int .i64 (m : Int)] rfl
          obtain ⟨w11, hw11⟩ : ∃ w11, w10.alloc (.cells #[.int .i64 u.k, .int .i64 u.n, .string (tx u.s), .int .i64 u.x, .int .i64 u.y, .slice Ao2 S.out.length co2, .int .i64 (m : Int)] 36) = w11 := ⟨_, rfl⟩
          rw [hw11] at HB11 HE11 HO11 HP11 HS11 HRA11 HT11 HRB11
          rw [hw11]
          obtain ⟨bRB, hbRB⟩ : ∃ b, w10.heap.size = b := ⟨_, rfl⟩
          rw [hbRB] at HRB11
          simp only [hbRB]
          clear HB10 HE10 HO10 HP10 HS10 HRA10 HT10 hltRA_ qRA0 qRA1 qRA2 qRA3 qRA4 qRA5 qRA6 hw11 hbRB
          refine (same_pairs S.out Ao Ao2 co co2 _ HS11.out HT11.out (by omega)).mono ?_
          rintro e w12 ⟨rfl, hb⟩
          have HB12 := Lib.hid (Below.next HB11.out hb)
          have HE12 := Lib.hid (HE11.out.next hb)
          have HO12 := Lib.hid (HO11.out.next hb)
          have HP12 := Lib.hid (HP11.out.next hb)
          have HS12 := Lib.hid (HS11.out.next hb)
          have HRA12 := Lib.hid (HRA11.out.next hb)
          have HT12 := Lib.hid (HT11.out.next hb)
          have HRB12 := Lib.hid (HRB11.out.next hb)
          clear HB11 HE11 HO11 HP11 HS11 HRA11 HT11 HRB11  hb
          go_wp2_with (fail)
          go_ret
          exact ⟨by simp, HB12.out⟩
end Go.Proofs.YtcdjincaedpodaaGreatDoor.Ev

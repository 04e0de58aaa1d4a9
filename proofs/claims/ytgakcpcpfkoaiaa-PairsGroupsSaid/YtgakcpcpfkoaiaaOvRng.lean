/-
  A range over a function that hands over what it has just laid: a law of my own.
-/
import Derived.Test.YtgakcpcpfkoaiaaOvBase
import Derived.RangeFuncNested
namespace Go.Proofs.Ytgakcpcpfkoaiaa.Ov
open Go.RowKit Go.Proofs

/-- What an iterator owes: between two rounds the caller's J holds, which abides whatever leaves all that lies as it lay, and says M; with each element comes Fx of the world in which it is handed over. S: all have come; Sp: stopped behind these. -/
def Its {α : Type} (F : Fence) (n : Nat) (P : Program) (g : Nat) (lb : Array Value) (encs : α → Array Value) (M : World → Prop) (Fx : List α → α → World → Prop) (S Sp : List α → Prop) : Prop :=
  ∀ (l : Nat) (J Jx : List α → World → Prop) (W : World), (∀ s X Y, J s X → Below X.heap.size X Y → J s Y) → (∀ s X Y, Jx s X → Below X.heap.size X Y → Jx s Y) → (∀ s X, J s X → M X) →
    (∀ pre x X, J pre X → Fx pre x X → YieldAt F (n - 1) P l (encs x) X fun e Y => (e = .returned (.bool true) ∧ J (pre ++ [x]) Y) ∨ (e = .returned (.bool false) ∧ Jx (pre ++ [x]) Y)) →
    J [] W → CallsIn F n P g (#[.func (.yield l) #[] #[]] ++ lb) W fun e Y => (∃ v, e = .returned v) ∧ ((∃ xs, S xs ∧ J xs Y) ∨ (∃ pre, Sp pre ∧ Jx pre Y))
/-- What a round leaves alone: the loop's two blocks. -/
structure Lets (B : Nat) (X Y : World) : Prop where
  size : X.heap.size ≤ Y.heap.size
  d : Y.heap[B]? = X.heap[B]?
  r : Y.heap[B + 1]? = X.heap[B + 1]?
/-- How a round ends. -/
def rngPost {α : Type} (B : Nat) (I Ix : List α → World → Prop) (xs : List α) (X : World) : Exit → Act → World → Prop
  | .normal, _, Y => Lets B X Y ∧ I xs Y
  | .ret, _, Y => Lets B X Y ∧ Ix xs Y
  | _, _, _ => False
theorem below_put {B l : Nat} {X : World} (o : Obj) (h : B ≤ l) (hX : B ≤ X.heap.size) : Below B X (X.putObj l o) := (Below.refl B X).grown (grownBy_putObj' X l o) hX fun k e => by cases e; exact h
variable {F : Fence} {n : Nat} {P : Program}
theorem wpIn_rng {α : Type} {g : Operand} {ps : Array Tmp} {assign body : Code} {Q : Exit → Act → World → Prop} {a : Act} {w : World}
    (hro : F.round = none) (h1 : 1 ≤ n) {gf : Nat} {lb : Array Value} (hg : a.eval g = .func (.func gf) #[] lb) (hFg : F.fn gf) (eg : ∀ args w, (callFunc gf args).run P w = .ok (.enter gf args) w)
    {encs : α → Array Value} {M : World → Prop} {Fx : List α → α → World → Prop} {S Sp : List α → Prop} (hseq : Its F (n - 1) P gf lb encs M Fx S Sp) (hps : ∀ x, (encs x).size = ps.size)
    (I Ix : List α → World → Prop) (hI : ∀ s X Y, I s X → Below w.heap.size X Y → I s Y) (hIx : ∀ s X Y, Ix s X → Below w.heap.size X Y → Ix s Y) (hM : ∀ s X, I s X → M X) (h0 : I [] w)
    (hFx : ∀ pre x X l o o', Fx pre x X → X.heap[l]? = some o → o.isCells = false → Fx pre x (X.putObj l o'))
    (a₁ : α → Act)
    (hassign : ∀ (l : Nat) (x : α) (W : World) (K : Act → World → Prop), K (a₁ x) W →
      assign.wpIn (F.inRound l) (n - 1 - 1) P (Exit.then K (fun _ _ _ => False)) { tmps := (ps.zip (encs x)).foldl (fun t (p, v) => t.setIfInBounds p v) a.tmps, defers := [] } W)
    (hbody : ∀ (l : Nat) (pre : List α) (x : α) (W : World), w.heap.size + 1 < W.heap.size → I pre W → Fx pre x W → body.wpIn (F.inRound l) (n - 1 - 1) P (rngPost w.heap.size I Ix (pre ++ [x]) W) (a₁ x) W)
    (hdone : ∀ (D : Nat) (xs : List α) (W : World), w.heap.size ≤ D → S xs → I xs W → W.heap[D]? = some (.deferred (some [])) → Q .normal { a with defers := { target := .collected D, args := #[] } :: a.defers } W)
    (hstop : ∀ (D : Nat) (pre : List α) (W : World), w.heap.size ≤ D → Sp pre → Ix pre W → W.heap[D]? = some (.deferred (some [])) → Code.ret.wpIn F n P Q { a with defers := { target := .collected D, args := #[] } :: a.defers } W) :
    (Code.rangeFunc g ps assign body).wpIn F n P Q a w := by
  obtain ⟨B, hB⟩ : ∃ B, B = w.heap.size := ⟨_, rfl⟩
  rw [← hB] at hI hIx hbody hdone hstop
  refine wpIn_rangeFunc fun fn hfn => ?_
  rw [hro]
  obtain ⟨rec, hrec⟩ : ∃ rec : LoopState → Option Code → Loop, rec = fun st pe => { state := st, pending := pe, fn, tmps := a.tmps, params := ps, assign, body, defers := B } := ⟨_, rfl⟩
  obtain ⟨W1, hW1⟩ : ∃ W1, W1 = (w.alloc (.deferred (some []))).alloc (.loop (rec .ready none)) := ⟨_, rfl⟩
  -- the two blocks: D lies, the record is in some state
  obtain ⟨Two, hTwo⟩ : ∃ Two : LoopState → Option Code → World → Prop, Two = fun st pe W => W.heap[B]? = some (.deferred (some [])) ∧ W.heap[B + 1]? = some (.loop (rec st pe)) := ⟨_, rfl⟩
  have hlt : ∀ {st pe W}, Two st pe W → B + 1 < W.heap.size := fun h => by rw [hTwo] at h; exact (Array.getElem?_eq_some_iff.1 h.2).1
  have hup : ∀ {st pe X Y}, Two st pe X → Below X.heap.size X Y → Two st pe Y := fun {st pe X Y} h k => by
    have := hlt h
    rw [hTwo] at h ⊢
    exact ⟨(k.block B (by omega)).trans h.1, (k.block (B + 1) this).trans h.2⟩
  have hturn : ∀ {st pe W} (st' : LoopState) (pe' : Option Code), Two st pe W → Two st' pe' (W.putObj (B + 1) (.loop (rec st' pe'))) := fun {st pe W} st' pe' h => by
    have hl := hlt h
    rw [hTwo] at h ⊢
    exact ⟨(World.putObj_heap_other (by omega)).trans h.1, World.putObj_heap_same hl⟩
  have hrecs : ∀ {st pe W}, Two st pe W → W.heap[B + 1]? = some (.loop (rec st pe)) := fun h => by rw [hTwo] at h; exact h.2
  have hdef : ∀ {st pe W}, Two st pe W → W.heap[B]? = some (.deferred (some [])) := fun h => by rw [hTwo] at h; exact h.1
  have hI2 : ∀ {s st pe W} (o : Obj), Two st pe W → I s W → I s (W.putObj (B + 1) o) := fun {s st pe W} o h hi => hI s _ _ hi (below_put o (by omega) (by have := hlt h; omega))
  have hIx2 : ∀ {s st pe W} (o : Obj), Two st pe W → Ix s W → Ix s (W.putObj (B + 1) o) := fun {s st pe W} o h hi => hIx s _ _ hi (below_put o (by omega) (by have := hlt h; omega))
  have hT1 : Two .ready none W1 := by
    rw [hTwo, hW1, hB]
    refine ⟨(Below.heap_alloc _ _ _ (by simp)).trans (World.alloc_heap_new w _), ?_⟩
    have := World.alloc_heap_new (w.alloc (.deferred (some []))) (.loop (rec .ready none)); rwa [World.size_alloc] at this
  have hI1 : I [] W1 := hI _ _ _ h0 (by rw [hW1, hB]; exact ((Below.refl _ w).alloc (Nat.le_refl _) _).alloc (by simp) _)
  refine ⟨B + 1, [{ target := .collected B, args := #[] }], W1, { target := .fn (.func gf) lb, args := #[.func (.yield (B + 1)) #[] #[]] }, W1, gf, #[.func (.yield (B + 1)) #[] #[]] ++ lb, W1, ?_, ?_, ?_, ?_, fun _ => h1, ?_⟩
  · rw [hW1, hrec, hB]; exact run_enterLoop_outer _ _ _ _ _
  · simp only [resolve, hg]
    simp [go_sem]
  · intro f' hf'; simp [Target.leads] at hf'; subst hf'; exact hFg
  · simp [invoke, go_sem, eg]
  · refine (hseq (B + 1) (fun pre W => I pre W ∧ Two .ready none W) (fun pre W => Ix pre W ∧ Two .done (some .ret) W) W1
      (fun s X Y h k => ⟨hI s X Y h.1 (k.mono (by have := hlt h.2; omega)), hup h.2 k⟩) (fun s X Y h k => ⟨hIx s X Y h.1 (k.mono (by have := hlt h.2; omega)), hup h.2 k⟩) (fun s X h => hM s X h.1) ?_ ⟨hI1, hT1⟩).mono ?_
    · rintro pre x W ⟨hi, hT⟩ hx
      have hl := hrecs hT
      have hy := run_yield (P := P) (args := encs x) hl (by rw [hrec]; exact hps x)
      rw [hrec] at hy
      refine ⟨fn, _, assign, body, hy, roundIn_of_wpIn hfn (hassign _ x W _ ⟨_, run_beginRound hl (by rw [hrec]), ?_⟩)⟩
      have ebusy : ({ rec .ready none with state := .busy } : Loop) = rec .busy none := by rw [hrec]
      rw [ebusy]
      have hTb := hturn .busy none hT
      refine wpIn_mono (hbody _ pre x _ (hlt hTb) (hI2 _ hT hi) (hFx pre x W _ _ _ hx hl rfl)) ?_
      have fin : ∀ (st : LoopState) (jump : Option Code) (Y : World), st = (if jump.isNone then .ready else .done) → Lets B (W.putObj (B + 1) (.loop (rec .busy none))) Y →
          (Instr.endRound (B + 1) jump).run P Y = .ok (.bool jump.isNone) (Y.putObj (B + 1) (.loop (rec st jump))) ∧ Two .busy none Y ∧ Two st jump (Y.putObj (B + 1) (.loop (rec st jump))) := fun st jump Y hst k => by
        have hTY : Two .busy none Y := by
          have h1 := hdef hTb; have h2 := hrecs hTb
          rw [hTwo]; exact ⟨k.d.trans h1, k.r.trans h2⟩
        have hr := run_endRound (P := P) jump (hrecs hTY)
        have e : ({ rec .busy none with state := if jump.isNone then .ready else .done, pending := jump } : Loop) = rec st jump := by rw [hst, hrec]
        rw [e] at hr
        exact ⟨hr, hTY, hturn st jump hTY⟩
      rintro e a3 Y hp
      cases e with
      | normal =>
        obtain ⟨hk, hi3⟩ := hp
        obtain ⟨hr, hTY, hT4⟩ := fin .ready none Y rfl hk
        exact ⟨_, _, hr, .inl ⟨rfl, hI2 _ hTY hi3, hT4⟩⟩
      | ret =>
        obtain ⟨hk, hi3⟩ := hp
        obtain ⟨hr, hTY, hT4⟩ := fin .done (some .ret) Y rfl hk
        exact ⟨_, _, hr, .inr ⟨rfl, hIx2 _ hTY hi3, hT4⟩⟩
      | exit id => exact hp.elim
      | goto t => exact hp.elim
      | panic ch => exact hp.elim
      | outgrown => exact hp.elim
    · have fin : ∀ (st : LoopState) (pe : Option Code) (W : World), st ≠ .busy → Two st pe W → (Instr.endLoop (B + 1)).run P W = .ok pe (W.putObj (B + 1) (.loop (rec .exhausted pe))) := fun st pe W hs hT => by
        have := run_endLoop (P := P) (hrecs hT) (by rw [hrec]; exact hs)
        have e : ({ rec st pe with state := .exhausted } : Loop) = rec .exhausted pe := by rw [hrec]
        rw [e] at this
        rw [this, hrec]
      rintro e W2 ⟨⟨v, rfl⟩, (⟨xs, hS, hi, hT⟩ | ⟨pre, hSp, hi, hT⟩)⟩
      · exact ⟨none, _, fin _ _ _ (by simp) hT, hdone B xs _ (Nat.le_refl _) hS (hI2 _ hT hi) (hdef (hturn .exhausted none hT))⟩
      · exact ⟨some .ret, _, fin _ _ _ (by simp) hT, hstop B pre _ (Nat.le_refl _) hSp (hIx2 _ hT hi) (hdef (hturn .exhausted (some .ret) hT))⟩
end Go.Proofs.Ytgakcpcpfkoaiaa.Ov

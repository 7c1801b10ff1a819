/- A loop over a function (range-over-func) whose body may leave early by 'return'. A plain law over any program; no condition. -/
import Derived.Test.YtmdmkmfemhkfgaaQA
set_option linter.unusedSimpArgs false
set_option linter.unusedVariables false
namespace Go.Proofs.Ytmdmkmfemhkfgaa
open Go.RowKit

/-- The iterator gf hands out xs one by one, and stops where it is told to. -/
def IterX {α : Type} (P : Program) (n gf : Nat) (lb : Array Value) (V : α → Array Value → World → Prop) (xs : List α) (S : Nat → Prop) (w : World) : Prop :=
  ∀ (l : Nat) (J JX : List α → World → Prop) (W : World), Keep S w W → (∀ pre, Stable (J pre)) → (∀ pre, Stable (JX pre)) →
    (∀ pre x rest W1 args, xs = pre ++ x :: rest → J pre W1 → V x args W1 → YieldAt Fence.wide (n - 1) P l args W1 fun e W' => (e = .returned (.bool true) ∧ J (pre ++ [x]) W' ∧ Keep S W1 W') ∨ (e = .returned (.bool false) ∧ JX (pre ++ [x]) W')) →
    J [] W → CallsIn Fence.wide n P gf (#[.func (.yield l) #[] #[]] ++ lb) W fun e W' => (∃ v, e = .returned v) ∧ (J xs W' ∨ ∃ pre, JX pre W')

/-- How the body of a round may be left: at its end, or by 'return'. -/
def endsRoundX {α : Type} (S : Nat → Prop) (I IX : List α → World → Prop) (pre : List α) (W : World) : Exit → Act → World → Prop
  | .normal, _, W' => KeepsOthers W W' ∧ Keep S W W' ∧ I pre W'
  | .ret, _, W' => KeepsOthers W W' ∧ IX pre W'
  | _, _, _ => False

/-- THE STATEMENT 'for .. := range g { .. return .. }' in a function that runs in no round. -/
theorem range_lawX {α : Type} {P : Program} {n : Nat} {g : Operand} {ps : Array Tmp} {assign body : Code} {Q : Exit → Act → World → Prop} {a : Act} {w : World}
    {gf : Nat} {lb : Array Value} (hg : a.eval g = .func (.func gf) #[] lb) (eg : ∀ args w, (callFunc gf args).run P w = .ok (.enter gf args) w)
    {V : α → Array Value → World → Prop} {xs : List α} {S : Nat → Prop} (hseq : IterX P (n - 1) gf lb V xs S w) (hS : ∀ k, S k → k < w.heap.size)
    (hps : ∀ x args W, V x args W → args.size = ps.size) (hV : ∀ x args, Deaf w.heap.size (V x args))
    (I IX : List α → World → Prop) (hI : ∀ pre, Stable (I pre)) (hI' : ∀ pre, Deaf w.heap.size (I pre)) (hX : ∀ pre, Stable (IX pre)) (hX' : ∀ pre, Deaf w.heap.size (IX pre)) (h0 : I [] w) (a₁ : Array Value → Act)
    (hassign : ∀ (l : Nat) (x : α) (args : Array Value) (W : World) (K : Act → World → Prop), V x args W → K (a₁ args) W →
      assign.wpIn (Fence.wide.inRound l) (n - 1 - 1) P (Exit.then K (fun _ _ _ => False)) { tmps := (ps.zip args).foldl (fun t (p, v) => t.setIfInBounds p v) a.tmps, defers := [] } W)
    (hbody : ∀ (l : Nat) (pre : List α) (x : α) (rest : List α) (args : Array Value) (W : World), xs = pre ++ x :: rest → I pre W → V x args W → w.heap.size ≤ W.heap.size →
      body.wpIn (Fence.wide.inRound l) (n - 1 - 1) P (endsRoundX S I IX (pre ++ [x]) W) (a₁ args) W)
    (hdone : ∀ (D : Nat) (W : World), w.heap.size ≤ D → I xs W → W.heap[D]? = some (.deferred (some [])) → Q .normal { a with defers := { target := .collected D, args := #[] } :: a.defers } W)
    (hstop : ∀ (D : Nat) (pre : List α) (W : World), w.heap.size ≤ D → IX pre W → W.heap[D]? = some (.deferred (some [])) → Code.ret.wpIn Fence.wide n P Q { a with defers := { target := .collected D, args := #[] } :: a.defers } W) :
    (Code.rangeFunc g ps assign body).wpIn Fence.wide n P Q a w := by
  refine wpIn_rangeFunc fun fn _ => ?_
  obtain ⟨rec, hrec⟩ : ∃ rec : LoopState → Option Code → Loop, rec = fun st pe => { state := st, pending := pe, fn, tmps := a.tmps, params := ps, assign, body, defers := w.heap.size } := ⟨_, rfl⟩
  obtain ⟨W1, hW1⟩ : ∃ W1, (w.alloc (.deferred (some []))).alloc (.loop (rec .ready none)) = W1 := ⟨_, rfl⟩
  have hbel : Below w.heap.size w W1 := by rw [← hW1]; exact ((Below.refl _ w).alloc (Nat.le_refl _) _).alloc (by simp) _
  have hD1 : W1.heap[w.heap.size]? = some (.deferred (some [])) := by
    rw [← hW1]; exact (Below.heap_alloc _ _ _ (by simp)).trans (World.alloc_heap_new w _)
  have hL1 : W1.heap[w.heap.size + 1]? = some (.loop (rec .ready none)) := by
    rw [← hW1]; have := World.alloc_heap_new (w.alloc (.deferred (some []))) (.loop (rec .ready none)); rwa [World.size_alloc] at this
  refine ⟨w.heap.size + 1, [{ target := .collected w.heap.size, args := #[] }], W1, { target := .fn (.func gf) lb, args := #[.func (.yield (w.heap.size + 1)) #[] #[]] }, W1, gf,
    #[.func (.yield (w.heap.size + 1)) #[] #[]] ++ lb, W1, ?_, ?_, fun _ _ => trivial, ?_, fun h => (by cases h), ?_⟩
  · rw [← hW1, hrec]; exact run_enterLoop_outer _ _ _ _ _
  · simp only [resolve, hg]
    simp [go_sem]
  · simp [invoke, go_sem, eg]
  · have hrun := hseq (w.heap.size + 1)
      (fun pre W => (I pre W ∧ w.heap.size + 1 < W.heap.size) ∧ W.heap[w.heap.size + 1]? = some (.loop (rec .ready none)) ∧ W.heap[w.heap.size]? = some (.deferred (some [])))
      (fun pre W => (IX pre W ∧ w.heap.size + 1 < W.heap.size) ∧ W.heap[w.heap.size + 1]? = some (.loop (rec .done (some .ret))) ∧ W.heap[w.heap.size]? = some (.deferred (some [])))
      W1 (Keep.of_below hbel hS)
      (fun pre W W' ⟨⟨h1, h2⟩, h3, h4⟩ hb => ⟨⟨hI pre W W' h1 hb, Nat.lt_of_lt_of_le h2 hb.size⟩, (hb.block _ h2).trans h3, (hb.block _ (by omega)).trans h4⟩)
      (fun pre W W' ⟨⟨h1, h2⟩, h3, h4⟩ hb => ⟨⟨hX pre W W' h1 hb, Nat.lt_of_lt_of_le h2 hb.size⟩, (hb.block _ h2).trans h3, (hb.block _ (by omega)).trans h4⟩)
      ?_ ⟨⟨hI _ _ _ h0 hbel, (Array.getElem?_eq_some_iff.1 hL1).1⟩, hL1, hD1⟩
    · refine hrun.mono ?_
      rintro e W2 ⟨⟨v, rfl⟩, (⟨⟨hi, _⟩, hl, hd⟩ | ⟨pre, ⟨hi, _⟩, hl, hd⟩)⟩
      · have he := run_endLoop (P := P) hl (by rw [hrec]; simp)
        rw [hrec] at he hl
        exact ⟨none, _, he, hdone _ _ (Nat.le_refl _) (hI' _ _ _ _ _ hi (by omega) hl rfl) ((World.putObj_heap_other (by omega)).trans hd)⟩
      · have he := run_endLoop (P := P) hl (by rw [hrec]; simp)
        rw [hrec] at he hl
        exact ⟨some .ret, _, he, hstop _ pre _ (Nat.le_refl _) (hX' _ _ _ _ _ hi (by omega) hl rfl) ((World.putObj_heap_other (by omega)).trans hd)⟩
    · rintro pre x rest W args hxs ⟨⟨hi, hlt⟩, hl, hd⟩ hv
      have hy := run_yield (P := P) (args := args) hl (by rw [hrec]; exact hps x args W hv)
      rw [hrec] at hy
      have hbusy : ∃ W3, W.putObj (w.heap.size + 1) (.loop { rec .ready none with state := .busy }) = W3 := ⟨_, rfl⟩
      obtain ⟨W3, hW3⟩ := hbusy
      have hnS : ¬ S (w.heap.size + 1) := fun h => by have := hS _ h; omega
      have hk3 : Keep S W W3 := by rw [← hW3]; exact Keep.putObj _ _ _ hnS
      have hi3 : I pre W3 := by rw [← hW3]; exact hI' _ _ _ _ _ hi (by omega) hl rfl
      have hv3 : V x args W3 := by rw [← hW3]; exact hV _ _ _ _ _ _ hv (by omega) hl rfl
      have hl3 : W3.heap[w.heap.size + 1]? = some (.loop { rec .ready none with state := .busy }) := by rw [← hW3]; exact World.putObj_heap_same hlt
      have hd3 : W3.heap[w.heap.size]? = some (.deferred (some [])) := by rw [← hW3]; exact (World.putObj_heap_other (by omega)).trans hd
      have hsz : w.heap.size ≤ W3.heap.size := by rw [← hW3]; simp; omega
      refine ⟨fn, _, assign, body, hy, roundIn_of_wpIn trivial (hassign _ x args W _ hv ⟨W3, by rw [← hW3]; exact run_beginRound hl (by rw [hrec]), ?_⟩)⟩
      refine wpIn_mono (hbody _ pre x rest args W3 hxs hi3 hv3 hsz) ?_
      rintro e a4 W4 hp
      cases e with
      | normal =>
        obtain ⟨ho, hk, hi4⟩ := hp
        have hl4 := ho.same _ _ hl3 rfl
        have hd4 := ho.same _ _ hd3 rfl
        have he := run_endRound (P := P) none hl4
        have hrr : ({ ({ rec .ready none with state := .busy } : Loop) with state := .ready, pending := none } : Loop) = rec .ready none := by rw [hrec]
        simp only [Option.isNone_none, if_true, hrr] at he
        have hl4' : w.heap.size + 1 < W4.heap.size := (Array.getElem?_eq_some_iff.1 hl4).1
        exact ⟨_, _, he, .inl ⟨rfl, ⟨⟨hI' _ _ _ _ _ hi4 (by omega) hl4 rfl, by simpa using hl4'⟩, World.putObj_heap_same hl4', (World.putObj_heap_other (by omega)).trans hd4⟩,
          hk3.trans (hk.trans (Keep.putObj _ _ _ hnS))⟩⟩
      | ret =>
        obtain ⟨ho, hi4⟩ := hp
        have hl4 := ho.same _ _ hl3 rfl
        have hd4 := ho.same _ _ hd3 rfl
        have he := run_endRound (P := P) (some .ret) hl4
        have hrr : ({ ({ rec .ready none with state := .busy } : Loop) with state := .done, pending := some .ret } : Loop) = rec .done (some .ret) := by rw [hrec]
        simp only [Option.isNone_some, Bool.false_eq_true, if_false, hrr] at he
        have hl4' : w.heap.size + 1 < W4.heap.size := (Array.getElem?_eq_some_iff.1 hl4).1
        exact ⟨_, _, he, .inr ⟨rfl, ⟨hX' _ _ _ _ _ hi4 (by omega) hl4 rfl, by simpa using hl4'⟩, World.putObj_heap_same hl4', (World.putObj_heap_other (by omega)).trans hd4⟩⟩
      | exit id => exact hp.elim
      | goto t => exact hp.elim
      | panic ch => exact hp.elim
      | outgrown => exact hp.elim
end Go.Proofs.Ytmdmkmfemhkfgaa

/- A loop over a function (range-over-func) of this seat: an iterator that hands out known things one by one, a body that never leaves early. Plain laws over any program; no condition. -/
import Derived.Test.YtmedjedmeggbpaaDoorBase
import Derived.RangeFuncOwn
import Derived.RangeFuncCalls
import Derived.RangeFuncLeaves
import Derived.RangeFuncBox
import Derived.RangeFuncFrom
import Derived.OwnWalkIn
import Derived.TacticsInMore
import Derived.LoopNIn
import Derived.LoopIn
import Derived.Shelf.Abstract
namespace Go.Proofs.YtmedjedmeggbpaaDoor
open Go.RowKit

/-- The blocks of S lie as they lay; the streams are as they were; no block has gone. -/
structure Keep (S : Nat → Prop) (w w' : World) : Prop where
  os : w'.os = w.os
  tape : w'.tape = w.tape
  output : w'.output = w.output
  size : w.heap.size ≤ w'.heap.size
  block : ∀ k, S k → w'.heap[k]? = w.heap[k]?

section
variable {S : Nat → Prop} {a b c : World}
theorem Keep.refl (S : Nat → Prop) (w : World) : Keep S w w := ⟨rfl, rfl, rfl, Nat.le_refl _, fun _ _ => rfl⟩
theorem Keep.trans (h : Keep S a b) (k : Keep S b c) : Keep S a c :=
  ⟨k.os.trans h.os, k.tape.trans h.tape, k.output.trans h.output, Nat.le_trans h.size k.size, fun i hi => (k.block i hi).trans (h.block i hi)⟩
theorem Keep.of_below {B : Nat} (h : Below B a b) (hS : ∀ k, S k → k < B) : Keep S a b := ⟨h.os, h.tape, h.output, h.size, fun k hk => h.block k (hS k hk)⟩
theorem Keep.putObj (w : World) (l : Nat) (o : Obj) (hl : ¬ S l) : Keep S w (w.putObj l o) :=
  ⟨rfl, rfl, rfl, by simp, fun k hk => World.putObj_heap_other (fun e => hl (e ▸ hk))⟩
theorem Keep.setCell (w : World) (p : Addr) (u : Value) (hl : ¬ S p.block) : Keep S w (w.setCell p u) :=
  ⟨rfl, rfl, rfl, by simp [World.setCell], fun k hk => Below.heap_setCell _ _ _ _ (fun e => hl (e ▸ hk))⟩
theorem Keep.grown {row : Option Nat} (h : a.grownBy b row) (hS : ∀ k, S k → k < a.heap.size) (hr : ∀ k, row = some k → ¬ S k) : Keep S a b :=
  ⟨h.os, h.tape, h.output, h.size, fun k hk => h.block k (hS k hk) (fun e => hr k e.symm hk)⟩
theorem Keep.cell (h : Keep S a b) {p : Addr} (hp : S p.block) : b.cell? p = a.cell? p := World.cell?_of_block (h.block p.block hp)
end

theorem others_of_below {a b : World} (h : Below a.heap.size a b) : KeepsOthers a b := ⟨h.size, fun k _ hk _ => (h.block k (Array.getElem?_eq_some_iff.1 hk).1).trans hk⟩

/-- What holds goes on holding when new blocks are laid. -/
def Stable (J : World → Prop) : Prop := ∀ W W', J W → Below W.heap.size W W' → J W'
/-- What holds goes on holding when a block that is no cells, from B on, is turned. -/
def Deaf (B : Nat) (J : World → Prop) : Prop := ∀ W l o o', J W → B ≤ l → W.heap[l]? = some o → o.isCells = false → J (W.putObj l o')

theorem Rd.putObj {w : World} {A : Option Addr} {xs : List Value} (h : Rd w A xs) {l : Nat} {o : Obj} (o' : Obj) (hl : w.heap[l]? = some o) (ho : o.isCells = false) : Rd (w.putObj l o') A xs := by
  intro hx
  obtain ⟨b, off, rfl, hlt, hc⟩ := h hx
  refine ⟨b, off, rfl, by simpa using hlt, fun j u hu => ?_⟩
  have hcell := hc j u hu
  refine (World.cell?_of_block (World.putObj_heap_other ?_)).trans hcell
  rintro e
  obtain ⟨o2, h2, h3⟩ := cells_of_cell hcell
  dsimp only at e h2
  rw [e, hl] at h2
  cases h2
  rw [ho] at h3
  cases h3

/-- The iterator gf with what it has captured hands out xs one by one, each by arguments that V allows; it leans on the blocks of S alone. -/
def Iter {α : Type} (P : Program) (n gf : Nat) (lb : Array Value) (V : α → Array Value → World → Prop) (xs : List α) (S : Nat → Prop) (w : World) : Prop :=
  ∀ (l : Nat) (J : List α → World → Prop) (W : World), Keep S w W → (∀ pre, Stable (J pre)) →
    (∀ pre x rest W1 args, xs = pre ++ x :: rest → J pre W1 → V x args W1 → YieldAt Fence.wide (n - 1) P l args W1 fun e W' => e = .returned (.bool true) ∧ J (pre ++ [x]) W' ∧ Keep S W1 W') →
    J [] W → CallsIn Fence.wide n P gf (#[.func (.yield l) #[] #[]] ++ lb) W fun e W' => (∃ v, e = .returned v) ∧ J xs W'

/-- How the body of a round may be left. -/
def endsRound {α : Type} (S : Nat → Prop) (I : List α → World → Prop) (pre : List α) (W : World) : Exit → Act → World → Prop
  | .normal, _, W' => KeepsOthers W W' ∧ Keep S W W' ∧ I pre W'
  | _, _, _ => False

/-- THE STATEMENT 'for .. := range g { .. }', its body never leaving early, in a function that runs in no round. -/
theorem range_law {α : Type} {P : Program} {n : Nat} {g : Operand} {ps : Array Tmp} {assign body : Code} {Q : Exit → Act → World → Prop} {a : Act} {w : World}
    {gf : Nat} {lb : Array Value} (hg : a.eval g = .func (.func gf) #[] lb) (eg : ∀ args w, (callFunc gf args).run P w = .ok (.enter gf args) w)
    {V : α → Array Value → World → Prop} {xs : List α} {S : Nat → Prop} (hseq : Iter P (n - 1) gf lb V xs S w) (hS : ∀ k, S k → k < w.heap.size)
    (hps : ∀ x args W, V x args W → args.size = ps.size) (hV : ∀ x args, Deaf w.heap.size (V x args))
    (I : List α → World → Prop) (hI : ∀ pre, Stable (I pre)) (hI' : ∀ pre, Deaf w.heap.size (I pre)) (h0 : I [] w) (a₁ : Array Value → Act)
    (hassign : ∀ (l : Nat) (x : α) (args : Array Value) (W : World) (K : Act → World → Prop), V x args W → K (a₁ args) W →
      assign.wpIn (Fence.wide.inRound l) (n - 1 - 1) P (Exit.then K (fun _ _ _ => False)) { tmps := (ps.zip args).foldl (fun t (p, v) => t.setIfInBounds p v) a.tmps, defers := [] } W)
    (hbody : ∀ (l : Nat) (pre : List α) (x : α) (rest : List α) (args : Array Value) (W : World), xs = pre ++ x :: rest → I pre W → V x args W → w.heap.size ≤ W.heap.size →
      body.wpIn (Fence.wide.inRound l) (n - 1 - 1) P (endsRound S I (pre ++ [x]) W) (a₁ args) W)
    (hdone : ∀ (D : Nat) (W : World), w.heap.size ≤ D → I xs W → W.heap[D]? = some (.deferred (some [])) → Q .normal { a with defers := { target := .collected D, args := #[] } :: a.defers } W) :
    (Code.rangeFunc g ps assign body).wpIn Fence.wide n P Q a w := by
  refine wpIn_rangeFunc fun fn _ => ?_
  obtain ⟨rec, hrec⟩ : ∃ rec : LoopState → Loop, rec = fun st => { state := st, pending := none, fn, tmps := a.tmps, params := ps, assign, body, defers := w.heap.size } := ⟨_, rfl⟩
  obtain ⟨W1, hW1⟩ : ∃ W1, (w.alloc (.deferred (some []))).alloc (.loop (rec .ready)) = W1 := ⟨_, rfl⟩
  have hbel : Below w.heap.size w W1 := by rw [← hW1]; exact ((Below.refl _ w).alloc (Nat.le_refl _) _).alloc (by simp) _
  have hD1 : W1.heap[w.heap.size]? = some (.deferred (some [])) := by
    rw [← hW1]; exact (Below.heap_alloc _ _ _ (by simp)).trans (World.alloc_heap_new w _)
  have hL1 : W1.heap[w.heap.size + 1]? = some (.loop (rec .ready)) := by
    rw [← hW1]; have := World.alloc_heap_new (w.alloc (.deferred (some []))) (.loop (rec .ready)); rwa [World.size_alloc] at this
  refine ⟨w.heap.size + 1, [{ target := .collected w.heap.size, args := #[] }], W1, { target := .fn (.func gf) lb, args := #[.func (.yield (w.heap.size + 1)) #[] #[]] }, W1, gf,
    #[.func (.yield (w.heap.size + 1)) #[] #[]] ++ lb, W1, ?_, ?_, fun _ _ => trivial, ?_, fun h => (by cases h), ?_⟩
  · rw [← hW1, hrec]; exact run_enterLoop_outer _ _ _ _ _
  · simp only [resolve, hg]
    simp [go_sem]
  · simp [invoke, go_sem, eg]
  · have hrun := hseq (w.heap.size + 1)
      (fun pre W => (I pre W ∧ w.heap.size + 1 < W.heap.size) ∧ W.heap[w.heap.size + 1]? = some (.loop (rec .ready)) ∧ W.heap[w.heap.size]? = some (.deferred (some [])))
      W1 (Keep.of_below hbel hS)
      (fun pre W W' ⟨⟨h1, h2⟩, h3, h4⟩ hb => ⟨⟨hI pre W W' h1 hb, Nat.lt_of_lt_of_le h2 hb.size⟩, (hb.block _ h2).trans h3, (hb.block _ (by omega)).trans h4⟩)
      ?_ ⟨⟨hI _ _ _ h0 hbel, (Array.getElem?_eq_some_iff.1 hL1).1⟩, hL1, hD1⟩
    · refine hrun.mono ?_
      rintro e W2 ⟨⟨v, rfl⟩, ⟨hi, _⟩, hl, hd⟩
      have he := run_endLoop (P := P) hl (by rw [hrec]; simp)
      rw [hrec] at he hl
      exact ⟨none, _, he, hdone _ _ (Nat.le_refl _) (hI' _ _ _ _ _ hi (by omega) hl rfl) ((World.putObj_heap_other (by omega)).trans hd)⟩
    · rintro pre x rest W args hxs ⟨⟨hi, hlt⟩, hl, hd⟩ hv
      have hy := run_yield (P := P) (args := args) hl (by rw [hrec]; exact hps x args W hv)
      rw [hrec] at hy
      have hbusy : ∃ W3, W.putObj (w.heap.size + 1) (.loop { rec .ready with state := .busy }) = W3 := ⟨_, rfl⟩
      obtain ⟨W3, hW3⟩ := hbusy
      have hnS : ¬ S (w.heap.size + 1) := fun h => by have := hS _ h; omega
      have hk3 : Keep S W W3 := by rw [← hW3]; exact Keep.putObj _ _ _ hnS
      have hi3 : I pre W3 := by rw [← hW3]; exact hI' _ _ _ _ _ hi (by omega) hl rfl
      have hv3 : V x args W3 := by rw [← hW3]; exact hV _ _ _ _ _ _ hv (by omega) hl rfl
      have hl3 : W3.heap[w.heap.size + 1]? = some (.loop { rec .ready with state := .busy }) := by rw [← hW3]; exact World.putObj_heap_same hlt
      have hd3 : W3.heap[w.heap.size]? = some (.deferred (some [])) := by rw [← hW3]; exact (World.putObj_heap_other (by omega)).trans hd
      have hsz : w.heap.size ≤ W3.heap.size := by rw [← hW3]; simp; omega
      refine ⟨fn, _, assign, body, hy, roundIn_of_wpIn trivial (hassign _ x args W _ hv ⟨W3, by rw [← hW3]; exact run_beginRound hl (by rw [hrec]), ?_⟩)⟩
      refine wpIn_mono (hbody _ pre x rest args W3 hxs hi3 hv3 hsz) ?_
      rintro e a4 W4 hp
      cases e with
      | normal =>
        obtain ⟨ho, hk, hi4⟩ := hp
        have hl4 := ho.same _ _ hl3 rfl
        have hd4 := ho.same _ _ hd3 rfl
        have he := run_endRound (P := P) none hl4
        have hrr : ({ ({ rec .ready with state := .busy } : Loop) with state := .ready, pending := none } : Loop) = rec .ready := by rw [hrec]
        simp only [Option.isNone_none, if_true, hrr] at he
        have hl4' : w.heap.size + 1 < W4.heap.size := (Array.getElem?_eq_some_iff.1 hl4).1
        exact ⟨_, _, he, rfl, ⟨⟨hI' _ _ _ _ _ hi4 (by omega) hl4 rfl, by simpa using hl4'⟩, World.putObj_heap_same hl4', (World.putObj_heap_other (by omega)).trans hd4⟩,
          hk3.trans (hk.trans (Keep.putObj _ _ _ hnS))⟩
      | ret => exact hp.elim
      | exit id => exact hp.elim
      | goto t => exact hp.elim
      | panic ch => exact hp.elim
      | outgrown => exact hp.elim
end Go.Proofs.YtmedjedmeggbpaaDoor

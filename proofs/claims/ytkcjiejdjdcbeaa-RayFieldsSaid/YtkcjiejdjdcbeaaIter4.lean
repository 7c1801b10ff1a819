/- A loop over a function whose iterator has memory of its own, which it writes between two rounds. A plain law over any program; no condition. -/
import Derived.Test.YtkcjiejdjdcbeaaQA
set_option linter.unusedSimpArgs false
set_option linter.unusedVariables false
namespace Go.Proofs.Ytkcjiejdjdcbeaa
open Go.RowKit

/-- Only blocks from lo up to hi have turned. -/
structure Aside (lo hi : Nat) (w w' : World) : Prop where
  os : w'.os = w.os
  tape : w'.tape = w.tape
  output : w'.output = w.output
  size : w'.heap.size = w.heap.size
  block : ∀ k, ¬ (lo ≤ k ∧ k < hi) → w'.heap[k]? = w.heap[k]?
theorem Aside.setCell {lo hi : Nat} (w : World) (p : Addr) (u : Value) (h1 : lo ≤ p.block) (h2 : p.block < hi) : Aside lo hi w (w.setCell p u) :=
  ⟨rfl, rfl, rfl, by simp [World.setCell], fun k hk => Below.heap_setCell _ _ _ _ (fun e => hk (e ▸ ⟨h1, h2⟩))⟩
theorem Aside.refl (lo hi : Nat) (w : World) : Aside lo hi w w := ⟨rfl, rfl, rfl, rfl, fun _ _ => rfl⟩
theorem Aside.trans {lo hi : Nat} {a b c : World} (h : Aside lo hi a b) (k : Aside lo hi b c) : Aside lo hi a c :=
  ⟨k.os.trans h.os, k.tape.trans h.tape, k.output.trans h.output, k.size.trans h.size, fun i hi => (k.block i hi).trans (h.block i hi)⟩
/-- What holds goes on holding when blocks from lo up to hi turn. -/
def StableA (lo hi : Nat) (J : World → Prop) : Prop := ∀ W W', J W → Aside lo hi W W' → J W'
/-- The blocks from lo up to hi lie as they lay. -/
def KeepI (lo hi : Nat) (w w' : World) : Prop := ∀ (k : Nat) (o : Obj), lo ≤ k → k < hi → w.heap[k]? = some o → w'.heap[k]? = some o
theorem KeepI.refl (lo hi : Nat) (w : World) : KeepI lo hi w w := fun _ _ _ _ h => h
theorem KeepI.trans {lo hi : Nat} {a b c : World} (h : KeepI lo hi a b) (k : KeepI lo hi b c) : KeepI lo hi a c := fun i o h1 h2 ho => k i o h1 h2 (h i o h1 h2 ho)
theorem KeepI.below {lo hi : Nat} {a b : World} (h : Below a.heap.size a b) : KeepI lo hi a b := fun k _ _ _ hk => (h.block k (Array.getElem?_eq_some_iff.1 hk).1).trans hk
theorem KeepI.putObj {lo hi : Nat} (w : World) (l : Nat) (o' : Obj) (hl : ¬ (lo ≤ l ∧ l < hi)) : KeepI lo hi w (w.putObj l o') := fun k q h1 h2 hk => (World.putObj_heap_other (fun e => hl (by rw [← e]; exact ⟨h1, h2⟩))).trans hk
theorem KeepI.setCell {lo hi : Nat} (w : World) (p : Addr) (u : Value) (h : ¬ (lo ≤ p.block ∧ p.block < hi)) : KeepI lo hi w (w.setCell p u) := fun k _ h1 h2 hk => (Below.heap_setCell _ _ _ _ (fun e => h (by rw [← e]; exact ⟨h1, h2⟩))).trans hk

/-- The iterator gf with what it has captured hands out xs one by one, each by arguments that V allows; it leans on the blocks of S, and on m blocks that it lays first of all; the rounds leave these alone. -/
def Iter4 {α : Type} (P : Program) (n gf : Nat) (lb : Array Value) (V : α → Array Value → World → Prop) (xs : List α) (S : Nat → Prop) (m : Nat) (w : World) : Prop :=
  ∀ (l : Nat) (J : List α → World → Prop) (W : World), Keep S w W → (∀ pre, Stable (J pre)) → (∀ pre, StableA W.heap.size (W.heap.size + m) (J pre)) →
    (∀ pre x rest W1 args, xs = pre ++ x :: rest → J pre W1 → V x args W1 → W.heap.size + m ≤ W1.heap.size → YieldAt Fence.wide (n - 1) P l args W1 fun e W' => e = .returned (.bool true) ∧ J (pre ++ [x]) W' ∧ Keep S W1 W' ∧ KeepI W.heap.size (W.heap.size + m) W1 W') →
    J [] W → CallsIn Fence.wide n P gf (#[.func (.yield l) #[] #[]] ++ lb) W fun e W' => (∃ v, e = .returned v) ∧ J xs W'
/-- How the body of a round may be left. -/
def endsRound4 {α : Type} (lo hi : Nat) (S : Nat → Prop) (I : List α → World → Prop) (pre : List α) (W : World) : Exit → Act → World → Prop
  | .normal, _, W' => KeepsOthers W W' ∧ Keep S W W' ∧ KeepI lo hi W W' ∧ I pre W'
  | _, _, _ => False

/-- THE STATEMENT 'for .. := range g { .. }', its body never leaving early, in a function that runs in no round. -/
theorem range_law4 {α : Type} {P : Program} {n : Nat} {g : Operand} {ps : Array Tmp} {assign body : Code} {Q : Exit → Act → World → Prop} {a : Act} {w : World}
    {gf : Nat} {lb : Array Value} (hg : a.eval g = .func (.func gf) #[] lb) (eg : ∀ args w, (callFunc gf args).run P w = .ok (.enter gf args) w)
    {V : α → Array Value → World → Prop} {xs : List α} {S : Nat → Prop} {m : Nat} (hseq : Iter4 P (n - 1) gf lb V xs S m w) (hS : ∀ k, S k → k < w.heap.size)
    (hps : ∀ x args W, V x args W → args.size = ps.size) 
    (I : List α → World → Prop) (hI : ∀ pre, Stable (I pre)) (hI' : ∀ pre, Deaf w.heap.size (I pre)) (hI4 : ∀ pre, StableA (w.heap.size + 2) (w.heap.size + 2 + m) (I pre)) (h0 : I [] w) (Z : α → Act → World → Prop) (hZ : ∀ x a, Deaf w.heap.size (Z x a))
    (hassign : ∀ (l : Nat) (x : α) (args : Array Value) (W : World) (K : Act → World → Prop), V x args W → w.heap.size ≤ W.heap.size → (∀ a₁ W', Below W.heap.size W W' → Z x a₁ W' → K a₁ W') →
      assign.wpIn (Fence.wide.inRound l) (n - 1 - 1) P (Exit.then K (fun _ _ _ => False)) { tmps := (ps.zip args).foldl (fun t (p, v) => t.setIfInBounds p v) a.tmps, defers := [] } W)
    (hbody : ∀ (l : Nat) (pre : List α) (x : α) (rest : List α) (a₁ : Act) (W : World), xs = pre ++ x :: rest → I pre W → Z x a₁ W → w.heap.size + 2 + m ≤ W.heap.size →
      body.wpIn (Fence.wide.inRound l) (n - 1 - 1) P (endsRound4 (w.heap.size + 2) (w.heap.size + 2 + m) S I (pre ++ [x]) W) a₁ W)
    (hdone : ∀ (D : Nat) (W : World), w.heap.size ≤ D → I xs W → W.heap[D]? = some (.deferred (some [])) → Q .normal { a with defers := { target := .collected D, args := #[] } :: a.defers } W) :
    (Code.rangeFunc g ps assign body).wpIn Fence.wide n P Q a w := by
  refine wpIn_rangeFunc fun fn _ => ?_
  obtain ⟨rec, hrec⟩ : ∃ rec : LoopState → Loop, rec = fun st => { state := st, pending := none, fn, tmps := a.tmps, params := ps, assign, body, defers := w.heap.size } := ⟨_, rfl⟩
  obtain ⟨W1, hW1⟩ : ∃ W1, (w.alloc (.deferred (some []))).alloc (.loop (rec .ready)) = W1 := ⟨_, rfl⟩
  have hbel : Below w.heap.size w W1 := by rw [← hW1]; exact ((Below.refl _ w).alloc (Nat.le_refl _) _).alloc (by simp) _
  have hD1 : W1.heap[w.heap.size]? = some (.deferred (some [])) := by
    rw [← hW1]; exact (Below.heap_alloc _ _ _ (by simp)).trans (World.alloc_heap_new w _)
  have hL1 : W1.heap[w.heap.size + 1]? = some (.loop (rec .ready)) := by
    rw [← hW1]; have := World.alloc_heap_new (w.alloc (.deferred (some []))) (.loop (rec .ready)); rwa [World.size_alloc] at this
  have hz1 : W1.heap.size = w.heap.size + 2 := by rw [← hW1]; simp
  refine ⟨w.heap.size + 1, [{ target := .collected w.heap.size, args := #[] }], W1, { target := .fn (.func gf) lb, args := #[.func (.yield (w.heap.size + 1)) #[] #[]] }, W1, gf,
    #[.func (.yield (w.heap.size + 1)) #[] #[]] ++ lb, W1, ?_, ?_, fun _ _ => trivial, ?_, fun h => (by cases h), ?_⟩
  · rw [← hW1, hrec]; exact run_enterLoop_outer _ _ _ _ _
  · simp only [resolve, hg]
    simp [go_sem]
  · simp [invoke, go_sem, eg]
  · have hrun := hseq (w.heap.size + 1)
      (fun pre W => (I pre W ∧ w.heap.size + 1 < W.heap.size) ∧ W.heap[w.heap.size + 1]? = some (.loop (rec .ready)) ∧ W.heap[w.heap.size]? = some (.deferred (some [])))
      W1 (Keep.of_below hbel hS)
      (fun pre W W' ⟨⟨h1, h2⟩, h3, h4⟩ hb => ⟨⟨hI pre W W' h1 hb, Nat.lt_of_lt_of_le h2 hb.size⟩, (hb.block _ h2).trans h3, (hb.block _ (by omega)).trans h4⟩)
      (fun pre W W' ⟨⟨h1, h2⟩, h3, h4⟩ hb => ⟨⟨hI4 pre W W' h1 (by rw [← hz1]; exact hb), by rw [hb.size]; exact h2⟩, (hb.block _ (by omega)).trans h3, (hb.block _ (by omega)).trans h4⟩)
      ?_ ⟨⟨hI _ _ _ h0 hbel, (Array.getElem?_eq_some_iff.1 hL1).1⟩, hL1, hD1⟩
    · refine hrun.mono ?_
      rintro e W2 ⟨⟨v, rfl⟩, ⟨hi, _⟩, hl, hd⟩
      have he := run_endLoop (P := P) hl (by rw [hrec]; simp)
      rw [hrec] at he hl
      exact ⟨none, _, he, hdone _ _ (Nat.le_refl _) (hI' _ _ _ _ _ hi (by omega) hl rfl) ((World.putObj_heap_other (by omega)).trans hd)⟩
    · rintro pre x rest W args hxs ⟨⟨hi, hlt⟩, hl, hd⟩ hv hown
      rw [hz1] at hown
      have hy := run_yield (P := P) (args := args) hl (by rw [hrec]; exact hps x args W hv)
      rw [hrec] at hy
      refine ⟨fn, _, assign, body, hy, roundIn_of_wpIn trivial (hassign _ x args W _ hv (by omega) fun a₁ W' hbW hz => ?_)⟩
      have hlW' : W'.heap[w.heap.size + 1]? = some (.loop (rec .ready)) := (hbW.block _ hlt).trans hl
      have hdW' : W'.heap[w.heap.size]? = some (.deferred (some [])) := (hbW.block _ (by omega)).trans hd
      have hiW' : I pre W' := hI _ _ _ hi hbW
      have hltW' : w.heap.size + 1 < W'.heap.size := Nat.lt_of_lt_of_le hlt hbW.size
      have hkW' : Keep S W W' := Keep.of_below hbW fun k hk => by have := hS k hk; omega
      have hbusy : ∃ W3, W'.putObj (w.heap.size + 1) (.loop { rec .ready with state := .busy }) = W3 := ⟨_, rfl⟩
      obtain ⟨W3, hW3⟩ := hbusy
      have hnS : ¬ S (w.heap.size + 1) := fun h => by have := hS _ h; omega
      have hk3 : Keep S W W3 := by rw [← hW3]; exact hkW'.trans (Keep.putObj _ _ _ hnS)
      have hc3 : KeepI (w.heap.size + 2) (w.heap.size + 2 + m) W W3 := by rw [← hW3]; exact (KeepI.below hbW).trans (KeepI.putObj _ _ _ (by omega))
      have hi3 : I pre W3 := by rw [← hW3]; exact hI' _ _ _ _ _ hiW' (by omega) hlW' rfl
      have hz3 : Z x a₁ W3 := by rw [← hW3]; exact hZ _ _ _ _ _ _ hz (by omega) hlW' rfl
      have hl3 : W3.heap[w.heap.size + 1]? = some (.loop { rec .ready with state := .busy }) := by rw [← hW3]; exact World.putObj_heap_same hltW'
      have hd3 : W3.heap[w.heap.size]? = some (.deferred (some [])) := by rw [← hW3]; exact (World.putObj_heap_other (by omega)).trans hdW'
      have hsz : w.heap.size + 2 + m ≤ W3.heap.size := by have := hbW.size; rw [← hW3]; simp; omega
      refine ⟨W3, by rw [← hW3]; exact run_beginRound hlW' (by rw [hrec]), ?_⟩
      refine wpIn_mono (hbody _ pre x rest a₁ W3 hxs hi3 hz3 hsz) ?_
      rintro e a4 W4 hp
      cases e with
      | normal =>
        obtain ⟨ho, hk, hc, hi4⟩ := hp
        have hl4 := ho.same _ _ hl3 rfl
        have hd4 := ho.same _ _ hd3 rfl
        have he := run_endRound (P := P) none hl4
        have hrr : ({ ({ rec .ready with state := .busy } : Loop) with state := .ready, pending := none } : Loop) = rec .ready := by rw [hrec]
        simp only [Option.isNone_none, if_true, hrr] at he
        have hl4' : w.heap.size + 1 < W4.heap.size := (Array.getElem?_eq_some_iff.1 hl4).1
        exact ⟨_, _, he, rfl, ⟨⟨hI' _ _ _ _ _ hi4 (by omega) hl4 rfl, by simpa using hl4'⟩, World.putObj_heap_same hl4', (World.putObj_heap_other (by omega)).trans hd4⟩,
          hk3.trans (hk.trans (Keep.putObj _ _ _ hnS)), by rw [hz1]; exact hc3.trans (hc.trans (KeepI.putObj _ _ _ (by omega)))⟩
      | ret => exact hp.elim
      | exit id => exact hp.elim
      | goto t => exact hp.elim
      | panic ch => exact hp.elim
      | outgrown => exact hp.elim
/-- The same; Z tells what a round begins with, by the state ahead of the loop. -/
theorem range_law5 {α : Type} {P : Program} {n : Nat} {g : Operand} {ps : Array Tmp} {assign body : Code} {Q : Exit → Act → World → Prop} {a : Act} {w : World} (Z : Act → α → Act → World → Prop)
    {gf : Nat} {lb : Array Value} (hg : a.eval g = .func (.func gf) #[] lb) (eg : ∀ args w, (callFunc gf args).run P w = .ok (.enter gf args) w)
    {V : α → Array Value → World → Prop} {xs : List α} {S : Nat → Prop} {m : Nat} (hseq : Iter4 P (n - 1) gf lb V xs S m w) (hS : ∀ k, S k → k < w.heap.size)
    (hps : ∀ x args W, V x args W → args.size = ps.size) 
    (I : List α → World → Prop) (hI : ∀ pre, Stable (I pre)) (hI' : ∀ pre, Deaf w.heap.size (I pre)) (hI4 : ∀ pre, StableA (w.heap.size + 2) (w.heap.size + 2 + m) (I pre)) (h0 : I [] w) (hZ : ∀ x a₁, Deaf w.heap.size (Z a x a₁))
    (hassign : ∀ (l : Nat) (x : α) (args : Array Value) (W : World) (K : Act → World → Prop), V x args W → w.heap.size ≤ W.heap.size → (∀ a₁ W', Below W.heap.size W W' → Z a x a₁ W' → K a₁ W') →
      assign.wpIn (Fence.wide.inRound l) (n - 1 - 1) P (Exit.then K (fun _ _ _ => False)) { tmps := (ps.zip args).foldl (fun t (p, v) => t.setIfInBounds p v) a.tmps, defers := [] } W)
    (hbody : ∀ (l : Nat) (pre : List α) (x : α) (rest : List α) (a₁ : Act) (W : World), xs = pre ++ x :: rest → I pre W → Z a x a₁ W → w.heap.size + 2 + m ≤ W.heap.size →
      body.wpIn (Fence.wide.inRound l) (n - 1 - 1) P (endsRound4 (w.heap.size + 2) (w.heap.size + 2 + m) S I (pre ++ [x]) W) a₁ W)
    (hdone : ∀ (D : Nat) (W : World), w.heap.size ≤ D → I xs W → W.heap[D]? = some (.deferred (some [])) → Q .normal { a with defers := { target := .collected D, args := #[] } :: a.defers } W) :
    (Code.rangeFunc g ps assign body).wpIn Fence.wide n P Q a w :=
  range_law4 hg eg hseq hS hps I hI hI' hI4 h0 (Z a) hZ hassign hbody hdone
end Go.Proofs.Ytkcjiejdjdcbeaa

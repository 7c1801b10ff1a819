/- A loop over a function whose round makes variables of its own: what the round finds is told from the state ahead of the loop. A plain law over any program; no condition. -/
import Derived.Test.YtnigmdkhecblnaaDoorMG
set_option linter.unusedSimpArgs false
set_option linter.unusedVariables false
namespace Go.Proofs.YtnigmdkhecblnaaDoor
open Go.RowKit

/-- THE STATEMENT 'for .. := range g { .. }', its body never leaving early, in a function that runs in no round; Z tells what a round begins with, by the state ahead of the loop. -/
theorem range_law3 {α : Type} {P : Program} {n : Nat} {g : Operand} {ps : Array Tmp} {assign body : Code} {Q : Exit → Act → World → Prop} {a : Act} {w : World} (Z : Act → α → Act → World → Prop)
    {gf : Nat} {lb : Array Value} (hg : a.eval g = .func (.func gf) #[] lb) (eg : ∀ args w, (callFunc gf args).run P w = .ok (.enter gf args) w)
    {V : α → Array Value → World → Prop} {xs : List α} {S : Nat → Prop} (hseq : Iter P (n - 1) gf lb V xs S w) (hS : ∀ k, S k → k < w.heap.size)
    (hps : ∀ x args W, V x args W → args.size = ps.size) 
    (I : List α → World → Prop) (hI : ∀ pre, Stable (I pre)) (hI' : ∀ pre, Deaf w.heap.size (I pre)) (h0 : I [] w) (hZ : ∀ x a₁, Deaf w.heap.size (Z a x a₁))
    (hassign : ∀ (l : Nat) (x : α) (args : Array Value) (W : World) (K : Act → World → Prop), V x args W → w.heap.size ≤ W.heap.size → (∀ a₁ W', Below W.heap.size W W' → Z a x a₁ W' → K a₁ W') →
      assign.wpIn (Fence.wide.inRound l) (n - 1 - 1) P (Exit.then K (fun _ _ _ => False)) { tmps := (ps.zip args).foldl (fun t (p, v) => t.setIfInBounds p v) a.tmps, defers := [] } W)
    (hbody : ∀ (l : Nat) (pre : List α) (x : α) (rest : List α) (a₁ : Act) (W : World), xs = pre ++ x :: rest → I pre W → Z a x a₁ W → w.heap.size ≤ W.heap.size →
      body.wpIn (Fence.wide.inRound l) (n - 1 - 1) P (endsRound S I (pre ++ [x]) W) a₁ W)
    (hdone : ∀ (D : Nat) (W : World), w.heap.size ≤ D → I xs W → W.heap[D]? = some (.deferred (some [])) → Q .normal { a with defers := { target := .collected D, args := #[] } :: a.defers } W) :
    (Code.rangeFunc g ps assign body).wpIn Fence.wide n P Q a w :=
  range_law2 hg eg hseq hS hps I hI hI' h0 (Z a) hZ hassign hbody hdone

/-- What was read goes on being read, over blocks that are laid and then over a loop that keeps the blocks of S. -/
theorem Rd.keepV {S : Nat → Prop} {V W W' : World} {A : Option Addr} {xs : List Value} (h : Rd V A xs) (hb : Below V.heap.size V W) (hS : ∀ j, j < V.heap.size → S j) (hk : Keep S W W') : Rd W' A xs := by
  intro hx
  obtain ⟨b, off, rfl, hlt, hc⟩ := h hx
  exact ⟨b, off, rfl, Nat.lt_of_lt_of_le hlt (Nat.le_trans hb.size hk.size), fun j u hu => (hk.cell (p := ⟨b, off + j, none⟩) (hS b hlt)).trans ((hb.cell (p := ⟨b, off + j, none⟩) hlt).trans (hc j u hu))⟩
theorem Rd.inS {S : Nat → Prop} {V : World} {A : Option Addr} {xs : List Value} (h : Rd V A xs) (hx : xs ≠ []) (hS : ∀ j, j < V.heap.size → S j) : ∀ b off, A = some ⟨b, off, none⟩ → S b := fun b off e => by
  obtain ⟨b', off', e', hlt, _⟩ := h hx
  rw [e] at e'
  injection e' with e'
  injection e' with e' _
  subst e'
  exact hS _ hlt
/-- All blocks that were there are kept, but for one. -/
def But (W : World) (q : Nat) : Nat → Prop := fun k => k < W.heap.size ∧ k ≠ q
theorem kpq {W w' : World} {q : Nat} (h : Keep (But W q) W w') : (∀ b o, b < W.heap.size → b ≠ q → w'.cell? ⟨b, o, none⟩ = W.cell? ⟨b, o, none⟩) ∧ Keep (But W q) W w' := ⟨fun b o hb hq => h.cell (p := ⟨b, o, none⟩) ⟨hb, hq⟩, h⟩
theorem But.below {W w' : World} {q : Nat} (h : Below W.heap.size W w') : Keep (But W q) W w' := Keep.of_below h fun _ hk => hk.1
theorem But.put {W w' : World} {q i : Nat} (h : Keep (But W q) W w') (u : Value) : Keep (But W q) W (w'.setCell ⟨q, i, none⟩ u) := h.trans (Keep.setCell _ _ _ fun hk => hk.2 rfl)
end Go.Proofs.YtnigmdkhecblnaaDoor

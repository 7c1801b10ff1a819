/- What holds while a line is made, with any blocks that are kept. Plain lemmas; no condition. -/
import Derived.Test.YthkmeaibppkhmaaDoorR15
import Derived.Test.YthkmeaibppkhmaaDoorKp
namespace Go.Proofs.YthkmeaibppkhmaaDoor
open Go.RowKit
set_option maxRecDepth 100000

/-- What holds while a line is made: box q holds Vb, Mb; rows Vr, Mr are the call's own; block g holds a number that is summed; the blocks kb, below q, are as listed. -/
structure LJ (w W : World) (q g : Nat) (kb : List (Nat × TypeId × List Value)) (x y : Int) (Vb Mb Vr Mr : Value) (n m : Nat) (lv lm : List Value) : Prop where
  bel : Below w.heap.size w W
  pq : w.heap.size ≤ q ∧ q < g
  bl : ∀ e ∈ kb, e.1 < q ∧ Blk W e.1 e.2.1 e.2.2
  ou : Blk W q 89 [Vb, Mb]
  su : Blk W g 76 [.int .i64 x, .int .i64 y]
  va : W.ownsRow (q + 1) 76 2 Vr n lv
  mi : W.ownsRow (q + 1) 3 1 Mr m lm
  vg : ∀ k, Vr.ownBlock = some k → k ≠ g

section
variable {w W W' : World} {q g : Nat} {kb : List (Nat × TypeId × List Value)} {x y : Int} {Vb Mb Vr Mr V' M' : Value} {n m n' m' : Nat} {lv lm lv' lm' : List Value}
theorem LJ.below (h : LJ w W q g kb x y Vb Mb Vr Mr n m lv lm) (hb : Below W.heap.size W W') : LJ w W' q g kb x y Vb Mb Vr Mr n m lv lm :=
  ⟨tr h.bel hb h.bel.size, h.pq, fun e he => ⟨(h.bl e he).1, (h.bl e he).2.bel hb⟩, h.ou.bel hb, h.su.bel hb, ownsRow_bel h.va hb, ownsRow_bel h.mi hb, h.vg⟩
theorem LJ.appV (h : LJ w W q g kb x y Vb Mb Vr Mr n m lv lm) (ho : W'.ownsRow (q + 1) 76 2 V' n' lv') (hg : W.grownBy W' Vr.ownBlock) (hat : ∀ k, V'.ownBlock = some k → Vr.ownBlock = some k ∨ W.heap.size ≤ k) : LJ w W' q g kb x y Vb Mb V' Mr n' m lv' lm := by
  obtain ⟨h1, h4⟩ := h.pq
  have hr : ∀ k, Vr.ownBlock = some k → q + 1 ≤ k := fun k hk => (h.va.lt k hk).1
  have ne : ∀ b, b ≤ q → some b ≠ Vr.ownBlock := fun b hb e => by have := hr b e.symm; omega
  refine ⟨h.bel.grown hg h.bel.size (fun k hk => by have := hr k hk; omega), h.pq, fun e he => ⟨(h.bl e he).1, (h.bl e he).2.kept hg (ne _ (by have := (h.bl e he).1; omega))⟩, h.ou.kept hg (ne _ (by omega)), h.su.kept hg (fun e => h.vg _ e.symm rfl), ho, h.mi.kept hg ?_, fun k hk => ?_⟩
  · rcases h.va.2 with ⟨rfl, _⟩ | ⟨gv, _, cur, rfl, _, hh, _⟩
    · cases hm : Mr.ownBlock with
      | none => exact .inl rfl
      | some b => exact .inr (by simp [Value.ownBlock])
    · exact .inr (Ne.symm (own_ne (g := gv) (t := 76) (cs := cur.toList) h.mi (by unfold Blk; rw [hh]) (by decide)))
  · rcases hat k hk with e | e
    · exact h.vg k e
    · have := h.su.lt; omega
theorem LJ.appM (h : LJ w W q g kb x y Vb Mb Vr Mr n m lv lm) (ho : W'.ownsRow (q + 1) 3 1 M' m' lm') (hg : W.grownBy W' Mr.ownBlock) : LJ w W' q g kb x y Vb Mb Vr M' n m' lv lm' := by
  obtain ⟨h1, h4⟩ := h.pq
  have hr : ∀ k, Mr.ownBlock = some k → q + 1 ≤ k := fun k hk => (h.mi.lt k hk).1
  have ne : ∀ b, b ≤ q → some b ≠ Mr.ownBlock := fun b hb e => by have := hr b e.symm; omega
  refine ⟨h.bel.grown hg h.bel.size (fun k hk => by have := hr k hk; omega), h.pq, fun e he => ⟨(h.bl e he).1, (h.bl e he).2.kept hg (ne _ (by have := (h.bl e he).1; omega))⟩, h.ou.kept hg (ne _ (by omega)), h.su.kept hg (own_ne h.mi h.su (by decide)), h.va.kept hg ?_, ho, h.vg⟩
  rcases h.mi.2 with ⟨rfl, _⟩ | ⟨gv, _, cur, rfl, _, hh, _⟩
  · cases hm : Vr.ownBlock with
    | none => exact .inl rfl
    | some b => exact .inr (by simp [Value.ownBlock])
  · exact .inr (Ne.symm (own_ne (g := gv) (t := 3) (cs := cur.toList) h.va (by unfold Blk; rw [hh]) (by decide)))
theorem LJ.cells (h : LJ w W q g kb x y Vb Mb Vr Mr n m lv lm) : W.cell? ⟨q, 0, none⟩ = some Vb ∧ W.cell? ⟨q, 1, none⟩ = some Mb ∧ W.cell? ⟨g, 0, none⟩ = some (.int .i64 x) ∧ W.cell? ⟨g, 1, none⟩ = some (.int .i64 y) :=
  ⟨h.ou.cell 0, h.ou.cell 1, h.su.cell 0, h.su.cell 1⟩
theorem LJ.store (h : LJ w W q g kb x y Vb Mb Vr Mr n m lv lm) : LJ w ((W.setCell ⟨q, 0, none⟩ Vr).setCell ⟨q, 1, none⟩ Mr) q g kb x y Vr Mr Vr Mr n m lv lm := by
  obtain ⟨h1, h4⟩ := h.pq
  have k1 : ∀ (W : World) (i : Nat) (u : Value), W.grownBy (W.setCell ⟨q, i, none⟩ u) (some q) := fun W i u => ⟨rfl, rfl, rfl, by simp [World.setCell], fun b _ hne => Below.heap_setCell W ⟨q, i, none⟩ u b (fun e => hne (by rw [e]))⟩
  refine ⟨(h.bel.setCell (p := ⟨q, 0, none⟩) h1 _).setCell (p := ⟨q, 1, none⟩) h1 _, h.pq, fun e he => ⟨(h.bl e he).1, ((h.bl e he).2.far (p := ⟨q, 0, none⟩) (by have := (h.bl e he).1; show e.1 ≠ q; omega) _).far (p := ⟨q, 1, none⟩) (by have := (h.bl e he).1; show e.1 ≠ q; omega) _⟩,
    (h.ou.set_ 0 Vr).set_ 1 Mr, (h.su.far (p := ⟨q, 0, none⟩) (by show g ≠ q; omega) _).far (p := ⟨q, 1, none⟩) (by show g ≠ q; omega) _, ?_, ?_, h.vg⟩
  · have nq : Vr.ownBlock ≠ some q := fun e => by have := (h.va.lt q e).1; omega
    exact (h.va.kept (k1 W 0 Vr) (.inr nq)).kept (k1 _ 1 Mr) (.inr nq)
  · have nq : Mr.ownBlock ≠ some q := fun e => by have := (h.mi.lt q e).1; omega
    exact (h.mi.kept (k1 W 0 Vr) (.inr nq)).kept (k1 _ 1 Mr) (.inr nq)
theorem LJ.drew (h : LJ w W q g kb x y Vb Mb Vr Mr n m lv lm) : LJ w W.drew q g kb x y Vb Mb Vr Mr n m lv lm := h.below ((Below.refl _ _).drew)
theorem LJ.alloc (h : LJ w W q g kb x y Vb Mb Vr Mr n m lv lm) (o : Obj) : LJ w (W.alloc o) q g kb x y Vb Mb Vr Mr n m lv lm := h.below (alloc_bel _ _)
end
end Go.Proofs.YthkmeaibppkhmaaDoor

/- A function that has run several loops over functions, one after the other: what it owes when it leaves. A plain law over any program. -/
import Derived.Test.YtmedjedmeggbpaaDoorIter
namespace Go.Proofs.YtmedjedmeggbpaaDoor
open Go.RowKit

/-- Each loop over a function leaves a mark among what is deferred; none has collected a call. -/
def Marks (B : Nat) (Ds : List Nat) (w : World) : Prop := Ds.Nodup ∧ ∀ D ∈ Ds, B ≤ D ∧ w.heap[D]? = some (.deferred (some []))
theorem Marks.bel {B : Nat} {Ds : List Nat} {w w' : World} (h : Marks B Ds w) (hb : Below w.heap.size w w') : Marks B Ds w' :=
  ⟨h.1, fun D hD => ⟨(h.2 D hD).1, (hb.block D (Array.getElem?_eq_some_iff.1 (h.2 D hD).2).1).trans (h.2 D hD).2⟩⟩
def marked (Ds : List Nat) : List Deferred := Ds.map fun D => { target := .collected D, args := #[] }

theorem leaves_marks {F : Fence} {n : Nat} {P : Program} {fn : Func} {tmps : Array Value} {R : Ending → World → Prop} {B : Nat} {J : World → Prop} (hJ : Deaf B J) (hR : ∀ w, J w → LeavesInM F n P fn tmps R [] .returning w) :
    ∀ (Ds : List Nat) (w : World), Marks B Ds w → J w → LeavesInM F n P fn tmps R (marked Ds) .returning w
  | [], w, _, h => hR w h
  | D :: Ds, w, hm, h => by
    obtain ⟨h1, h2⟩ := hm.2 D (by simp)
    refine ⟨by simp, .inl ⟨D, _, rfl, run_takeDeferred h2, leaves_marks hJ hR Ds _ ⟨(List.nodup_cons.1 hm.1).2, fun D' hD' => ?_⟩ (hJ w D _ _ h h1 h2 rfl)⟩⟩
    obtain ⟨k1, k2⟩ := hm.2 D' (by simp [hD'])
    refine ⟨k1, (World.putObj_heap_other ?_).trans k2⟩
    rintro rfl
    exact (List.nodup_cons.1 hm.1).1 hD'
end Go.Proofs.YtmedjedmeggbpaaDoor

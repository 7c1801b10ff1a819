/- What a region keeps of all that was there. Plain lemmas; no condition. -/
import Derived.Test.YtnigmdkhecblnaaDoorMC
set_option linter.unusedSimpArgs false
set_option linter.unusedVariables false
namespace Go.Proofs.YtnigmdkhecblnaaDoor
open Go.RowKit

/-- Behind W all that was there reads as it did. -/
theorem kp {W w' : World} (h : Below W.heap.size W w') : (∀ b o, b < W.heap.size → w'.cell? ⟨b, o, none⟩ = W.cell? ⟨b, o, none⟩) ∧ Below W.heap.size W w' := ⟨(bcell h).1, h⟩
theorem kp_refl (W : World) : (∀ b o, b < W.heap.size → W.drew.cell? ⟨b, o, none⟩ = W.cell? ⟨b, o, none⟩) ∧ Below W.heap.size W W.drew := kp ((Below.refl _ _).drew)
theorem bel_alloc {W w' : World} {n : Nat} (h : Below n W w') (hn : n ≤ w'.heap.size) (o : Obj) : Below n W (w'.alloc o) := h.trans ((alloc_bel w' o).mono hn)
theorem bel_tr {W w' w1 : World} {n : Nat} (h : Below n W w') (hn : n ≤ w'.heap.size) (hb : Below w'.heap.size w' w1) : Below n W w1 := h.trans (hb.mono hn)

theorem Blk.two (w : World) (t u : TypeId) (cs ds : List Value) : Blk ((w.alloc (.cells cs.toArray t)).alloc (.cells ds.toArray u)) (w.heap.size + 1) u ds := by
  have := Blk.new (w.alloc (.cells cs.toArray t)) u ds
  simpa using this
theorem Blk.dr {w : World} {g : Nat} {t : TypeId} {cs : List Value} (h : Blk w g t cs) : Blk w.drew g t cs := h
theorem Blk.set2 {w : World} {g : Nat} {t : TypeId} {a b : Value} (h : Blk w g t [a, b]) (u v : Value) : Blk ((w.setCell ⟨g, 0, none⟩ u).setCell ⟨g, 1, none⟩ v) g t [u, v] := (h.set_ 0 u).set_ 1 v
theorem RdT.al {w : World} {t : TypeId} {A : Option Addr} {xs : List Value} (h : RdT w t A xs) (o : Obj) : RdT (w.alloc o) t A xs := h.bel (alloc_bel _ _)
theorem RdT.dr {w : World} {t : TypeId} {A : Option Addr} {xs : List Value} (h : RdT w t A xs) : RdT w.drew t A xs := h
theorem RdT.set {w : World} {t e : TypeId} {A : Option Addr} {xs cs : List Value} {g : Nat} (h : RdT w t A xs) (hb : Blk w g e cs) (hne : t ≠ e) (i : Nat) (u : Value) : RdT (w.setCell ⟨g, i, none⟩ u) t A xs := h.keep (KeepT.setCell hb hne i u)
theorem RdT.set2 {w : World} {t e : TypeId} {A : Option Addr} {xs : List Value} {g : Nat} {a b : Value} (h : RdT w t A xs) (hb : Blk w g e [a, b]) (hne : t ≠ e) (u v : Value) : RdT ((w.setCell ⟨g, 0, none⟩ u).setCell ⟨g, 1, none⟩ v) t A xs := (h.set hb hne 0 u).set (hb.set_ 0 u) hne 1 v
end Go.Proofs.YtnigmdkhecblnaaDoor

/- Contracts: the doubled pair, as the reference has it. Written by tools/genp6.py. -/
import Derived.Test.YtnigmdkhecblnaaDoorP5
import Derived.Deep.AppendLies
set_option linter.unusedSimpArgs false
set_option linter.unusedVariables false
namespace Go.Proofs.YtnigmdkhecblnaaDoor
open Go.RowKit
set_option maxRecDepth 100000

theorem size_dr (w : World) : w.drew.heap.size = w.heap.size := rfl
theorem blk_kept {W W' : World} {g k : Nat} {e : TypeId} {cs : List Value} (h : Blk W g e cs) (hg : W.grownBy W' (some k)) (hne : g ≠ k) : Blk W' g e cs := (hg.block g h.lt (by simpa using hne)).trans h
theorem own_kept {w w' : World} {base : Nat} {e : TypeId} {size n g cap k : Nat} {xs : List Value} (h : w.ownsRow base e size (.slice (some ⟨g, 0, none⟩) n cap) n xs) (hg : w.grownBy w' (some k)) (hne : g ≠ k) : w'.ownsRow base e size (.slice (some ⟨g, 0, none⟩) n cap) n xs :=
  h.kept hg (.inr (by simpa [Value.ownBlock] using hne))
theorem rdt_kept {w w' : World} {t : TypeId} {g off k : Nat} {xs : List Value} (h : RdT w t (some ⟨g, off, none⟩) xs) (hg : w.grownBy w' (some k)) (hne : g ≠ k) : RdT w' t (some ⟨g, off, none⟩) xs := by
  obtain ⟨h1, h2⟩ := h
  obtain ⟨cs, fr, hb⟩ := h2 g off rfl
  have hlt : g < w.heap.size := (Array.getElem?_eq_some_iff.1 hb).1
  have hk : w'.heap[g]? = w.heap[g]? := hg.block g hlt (by simpa using hne)
  refine ⟨fun hx => ?_, fun b o hA => ?_⟩
  · obtain ⟨b, o, hA, hl, hc⟩ := h1 hx
    injection hA with hA
    injection hA with e1 e2
    subst e1 e2
    exact ⟨g, off, rfl, Nat.lt_of_lt_of_le hl hg.size, fun j u hu => (World.cell?_of_block hk).trans (hc j u hu)⟩
  · injection hA with hA
    injection hA with e1 e2
    subst e1 e2
    exact ⟨cs, fr, hk.trans hb⟩
theorem Rd.src {w : World} {b off : Nat} {xs : List Value} (h : Rd w (some ⟨b, off, none⟩) xs) : ∀ j u, xs[j]? = some u → w.cell? ((⟨b, off, none⟩ : Addr).add j) = some u := by
  intro j u hu
  obtain ⟨b', o', hA, _, hc⟩ := h (by rintro rfl; simp at hu)
  injection hA with hA
  injection hA with e1 e2
  subst e1 e2
  have hadd : (⟨b, off, none⟩ : Addr).add j = ⟨b, off + j, none⟩ := by unfold Addr.add; split <;> simp_all
  rw [hadd]
  exact hc j u hu

end Go.Proofs.YtnigmdkhecblnaaDoor

/- Words for memory, more: a slice that lies in a block of a known element type. Plain lemmas; no condition. -/
import Derived.Test.YtmedjedmeggbpaaDoorIter
import Derived.RangeFuncBox
namespace Go.Proofs.YtmedjedmeggbpaaDoor
open Go.RowKit

/-- A slice that reads as these cells, and lies in a block of the element type t. -/
def RdT (w : World) (t : TypeId) (A : Option Addr) (xs : List Value) : Prop := Rd w A xs ∧ ∀ b off, A = some ⟨b, off, none⟩ → ∃ cs fr, w.heap[b]? = some (.cells cs t fr)

/-- All blocks of the element type t lie as they lay. -/
def KeepT (t : TypeId) (w w' : World) : Prop := w.heap.size ≤ w'.heap.size ∧ ∀ (b : Nat) (cs : Array Value) (fr : Nat × Nat), w.heap[b]? = some (Obj.cells cs t fr) → w'.heap[b]? = some (Obj.cells cs t fr)

section
variable {w w' w1 : World} {t e : TypeId} {A : Option Addr} {xs : List Value}
theorem KeepT.refl (t : TypeId) (w : World) : KeepT t w w := ⟨Nat.le_refl _, fun _ _ _ h => h⟩
theorem KeepT.trans (h : KeepT t w w') (k : KeepT t w' w1) : KeepT t w w1 := ⟨Nat.le_trans h.1 k.1, fun b cs fr hb => k.2 b cs fr (h.2 b cs fr hb)⟩
theorem KeepT.bel (hb : Below w.heap.size w w') : KeepT t w w' := ⟨hb.size, fun b _ _ h => (hb.block b (Array.getElem?_eq_some_iff.1 h).1).trans h⟩
theorem KeepT.grown {row : Option Nat} (hg : w.grownBy w' row) (hr : ∀ k, row = some k → ∃ cs fr, w.heap[k]? = some (.cells cs e fr)) (hte : t ≠ e) : KeepT t w w' :=
  ⟨hg.size, fun b cs fr h => (hg.block b (Array.getElem?_eq_some_iff.1 h).1 (fun he => by
    obtain ⟨cs', fr', h'⟩ := hr b he.symm
    rw [h] at h'
    injection h' with h'
    injection h' with _ h'
    exact hte h')).trans h⟩
theorem KeepT.setCell {B : Nat} {cs : Array Value} {fr : Nat × Nat} (hB : w.heap[B]? = some (.cells cs e fr)) (hte : t ≠ e) (i : Nat) (u : Value) : KeepT t w (w.setCell ⟨B, i, none⟩ u) :=
  ⟨by simp [World.setCell], fun b cs' fr' h => (Below.heap_setCell _ _ _ _ (fun he => by
    dsimp only at he
    subst he
    rw [h] at hB
    injection hB with hB
    injection hB with _ hB
    exact hte hB)).trans h⟩
theorem KeepT.putObj {l : Nat} {o : Obj} (o' : Obj) (hl : w.heap[l]? = some o) (ho : o.isCells = false) : KeepT t w (w.putObj l o') :=
  ⟨by simp, fun b cs fr h => (World.putObj_heap_other (fun he => by subst he; rw [h] at hl; cases hl; cases ho)).trans h⟩

theorem RdT.keep (h : RdT w t A xs) (hk : KeepT t w w') : RdT w' t A xs := by
  refine ⟨fun hx => ?_, fun b off hA => ?_⟩
  · obtain ⟨b, off, rfl, hlt, hc⟩ := h.1 hx
    obtain ⟨cs, fr, hb⟩ := h.2 b off rfl
    exact ⟨b, off, rfl, Nat.lt_of_lt_of_le hlt hk.1, fun j u hu => (World.cell?_of_block (w := w) (w' := w') (a := ⟨b, off + j, none⟩) ((hk.2 b cs fr hb).trans hb.symm)).trans (hc j u hu)⟩
  · obtain ⟨cs, fr, hb⟩ := h.2 b off hA
    exact ⟨cs, fr, hk.2 b cs fr hb⟩
theorem RdT.bel (h : RdT w t A xs) (hb : Below w.heap.size w w') : RdT w' t A xs := h.keep (KeepT.bel hb)
theorem RdT.putObj (h : RdT w t A xs) {l : Nat} {o : Obj} (o' : Obj) (hl : w.heap[l]? = some o) (ho : o.isCells = false) : RdT (w.putObj l o') t A xs := h.keep (KeepT.putObj o' hl ho)
theorem Blk.rdT {g : Nat} {cs : List Value} (h : Blk w g t cs) {xs : List Value} (hx : xs <+: cs) : RdT w t (some ⟨g, 0, none⟩) xs :=
  ⟨h.rd hx, fun b off hA => by injection hA with hA; injection hA with h1; subst h1; exact ⟨_, _, h⟩⟩
end

/-- make([]T, n) as an equation over every world. -/
theorem run_make_rowN {P : Program} (t e : TypeId) (i : TypeInfo) (z : Value) (ht : P.underlying t = some (.slice e)) (hi : P.info? e = some i) (hz : i.zero = some z)
    (kl kc : IntKind) (n c : Nat) (hnc : n ≤ c) (hbytes : i.bytes * c ≤ 281474976710656) (h63 : c ≤ 9223372036854775807) (w : World) :
    (Instr.makeSlice t (.int kl (n : Int)) (.int kc (c : Int))).run P w = .ok (.slice (some ⟨w.heap.size, 0, none⟩) n c) (w.alloc (.cells (madeCells z.cells (c * i.size)) e)) := by
  have hb : (i.bytes : Int) * (c : Int) ≤ 281474976710656 := by
    have h : ((i.bytes * c : Nat) : Int) ≤ 281474976710656 := by omega
    rwa [Int.natCast_mul] at h
  have hr := run_make (P := P) w t e i z ht hi hz kl kc n c (by omega) (by omega) hb (by omega)
  simp only [Int.toNat_natCast] at hr
  exact hr

/-- One element of two cells in a block that is known whole. -/
theorem Blk.g_at {w : World} {b : Nat} {t : TypeId} {l : List (Int × Int)} (h : Blk w b t (gs l)) {k : Nat} {g : Int × Int} (hk : l[k]? = some g) :
    w.cell? ⟨b, k * 2, none⟩ = some (.int .i64 g.1) ∧ w.cell? ⟨b, k * 2 + 1, none⟩ = some (.int .i64 g.2) := by
  obtain ⟨hlt, rfl⟩ := List.getElem?_eq_some_iff.1 hk
  obtain ⟨h1, h2⟩ := gs_at hlt
  exact ⟨(h.cell _).trans h1, (h.cell _).trans h2⟩
theorem gs_set {l : List (Int × Int)} {k : Nat} (hk : k < l.length) (g : Int × Int) : ((gs l).set (k * 2) (.int .i64 g.1)).set (k * 2 + 1) (.int .i64 g.2) = gs (l.set k g) := by
  induction l generalizing k with
  | nil => simp at hk
  | cons a l ih =>
    cases k with
    | zero => rfl
    | succ k =>
      rw [gs_cons, List.set_cons_succ, gs_cons, ← ih (by simpa using hk), show (k + 1) * 2 = k * 2 + 1 + 1 from by omega, show k * 2 + 1 + 1 + 1 = (k * 2 + 1) + 1 + 1 from by omega]
      rfl
theorem Blk.setG {w : World} {b : Nat} {t : TypeId} {l : List (Int × Int)} (h : Blk w b t (gs l)) {k : Nat} {g : Int × Int} (hk : k < l.length) :
    Blk ((w.setCell ⟨b, k * 2, none⟩ (.int .i64 g.1)).setCell ⟨b, k * 2 + 1, none⟩ (.int .i64 g.2)) b t (gs (l.set k g)) := by
  rw [← gs_set hk]
  exact (h.set_ _ _).set_ _ _

/-- 'x = append(x, ..)', x a variable in a box of the call's own: all that the walk owes behind it. -/
theorem box_append {S : Nat → Prop} {W w1 : World} {n₀ B : Nat} {t e : TypeId} {size : Nat} {v v' : Value} {k m : Nat} {xs ys : List Value} {tmp : Obj}
    (hv : Boxed W B t v) (hte : t ≠ e) (hrow : W.ownsRow n₀ e size v k xs) (hown' : w1.ownsRow n₀ e size v' m ys) (hgrow : (W.alloc tmp).grownBy w1 v.ownBlock)
    (hS : ∀ k, S k → k < n₀ ∧ k ≠ B) (hn : n₀ ≤ W.heap.size) :
    Boxed w1 B t v ∧ Boxed (w1.setCell ⟨B, 0, none⟩ v') B t v' ∧ (w1.setCell ⟨B, 0, none⟩ v').ownsRow n₀ e size v' m ys ∧ KeepsOthers W (w1.setCell ⟨B, 0, none⟩ v') ∧ Keep S W (w1.setCell ⟨B, 0, none⟩ v') ∧
      ∀ t', t' ≠ t → t' ≠ e → KeepT t' W (w1.setCell ⟨B, 0, none⟩ v') := by
  have hv1 : Boxed w1 B t v := (hv.alloc tmp).kept hgrow (hv.not_row hte hrow)
  have hrw : ∀ j, v.ownBlock = some j → n₀ ≤ j ∧ ∃ cs fr, (W.alloc tmp).heap[j]? = some (.cells cs e fr) := fun j ej => by
    rcases (hrow.alloc tmp).2 with ⟨rfl, _⟩ | ⟨g, cap, cur, rfl, hb, hgb, _⟩
    · simp [Value.ownBlock] at ej
    · obtain rfl : g = j := by simpa [Value.ownBlock] using ej
      exact ⟨hb, _, _, hgb⟩
  refine ⟨hv1, hv1.set v', hown'.kept (grownBy_setCell' w1 B v') (.inr (hv1.not_row hte hown').symm), ?_, ?_, fun t' h1 h2 => ?_⟩
  · refine ((KeepsOthers.alloc W tmp).trans (KeepsOthers.of_grownBy hgrow fun j o ej hj => ?_)).trans (KeepsOthers.setCell _ _ _)
    obtain ⟨_, cs, fr, h3⟩ := hrw j ej
    rw [h3] at hj; cases hj; rfl
  · refine ((Keep.of_below ((Below.refl _ W).alloc (Nat.le_refl _) tmp) fun k hk => by have := (hS k hk).1; omega).trans
      (Keep.grown hgrow (fun k hk => by have := (hS k hk).1; simp; omega) fun j ej hj => ?_)).trans (Keep.setCell _ _ _ fun hk => (hS _ hk).2 rfl)
    have h3 := (hrw j ej).1
    have h4 := (hS j hj).1
    omega
  · exact ((KeepT.bel ((Below.refl _ W).alloc (Nat.le_refl _) tmp)).trans (KeepT.grown hgrow (fun k hk => (hrw k hk).2) h2)).trans (KeepT.setCell hv1 h1 0 v')

theorem ownsRow_slice {W : World} {base : Nat} {e : TypeId} {size n : Nat} {v : Value} {xs : List Value} (h : W.ownsRow base e size v n xs) : ∃ A c, v = .slice A n c := by
  rcases h.2 with ⟨rfl, rfl⟩ | ⟨g, cap, cur, rfl, _⟩
  · exact ⟨none, 0, rfl⟩
  · exact ⟨_, _, rfl⟩
theorem ownsRow_bel {W W' : World} {base : Nat} {e : TypeId} {size n : Nat} {v : Value} {xs : List Value} (h : W.ownsRow base e size v n xs) (hb : Below W.heap.size W W') : W'.ownsRow base e size v n xs :=
  h.kept (row := none) ⟨hb.os, hb.tape, hb.output, hb.size, fun k hk _ => hb.block k hk⟩ (by cases v.ownBlock <;> simp)
theorem boxed_bel {W W' : World} {B : Nat} {t : TypeId} {v : Value} (h : Boxed W B t v) (hb : Below W.heap.size W W') : Boxed W' B t v := (hb.block B h.lt).trans h
theorem boxed_putObj {W : World} {B : Nat} {t : TypeId} {v : Value} (h : Boxed W B t v) {l : Nat} {o : Obj} (o' : Obj) (hl : W.heap[l]? = some o) (ho : o.isCells = false) : Boxed (W.putObj l o') B t v := by
  refine (World.putObj_heap_other ?_).trans h
  rintro rfl
  rw [show W.heap[B]? = _ from h] at hl
  cases hl
  cases ho
end Go.Proofs.YtmedjedmeggbpaaDoor

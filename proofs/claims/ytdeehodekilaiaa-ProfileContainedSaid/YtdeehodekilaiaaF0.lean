/- Words for memory of chapter 4: slabs, points, what a region keeps. Plain lemmas; no condition. -/
import Derived.Test.YtdeehodekilaiaaProg
import Derived.Deep.DeepCutAuto
import Derived.Deep.Cut
import Derived.Laws.StructEq
import Derived.Lib.SmallJoins
import Derived.Outline
import Derived.Test.YtdeehodekilaiaaQA
import Derived.Test.YtdeehodekilaiaaQB
set_option linter.unusedSimpArgs false
set_option linter.unusedVariables false
namespace Go.Proofs.Ytdeehodekilaiaa
open Go.RowKit

theorem alloc_bel (w : World) (o : Obj) : Below w.heap.size w (w.alloc o) := (Below.refl _ _).alloc (Nat.le_refl _) o
theorem kp {W w' : World} (h : Below W.heap.size W w') : (∀ b o, b < W.heap.size → w'.cell? ⟨b, o, none⟩ = W.cell? ⟨b, o, none⟩) ∧ Below W.heap.size W w' := ⟨(bcell h).1, h⟩
theorem bel_alloc {W w' : World} {n : Nat} (h : Below n W w') (hn : n ≤ w'.heap.size) (o : Obj) : Below n W (w'.alloc o) := h.trans ((alloc_bel w' o).mono hn)
theorem bel_tr {W w' w1 : World} {n : Nat} (h : Below n W w') (hn : n ≤ w'.heap.size) (hb : Below w'.heap.size w' w1) : Below n W w1 := h.trans (hb.mono hn)

theorem calls_marks {P : Program} {f : FuncId} {fn : Func} {c : Code} {args : Array Value} {w : World} {R : Ending → World → Prop} (n : Nat) (hf : P.funcs[f]? = some fn) (hb : fn.body = some c)
    (h : c.wp P (bodyPostM Fence.wide n P fn R) { tmps := args ++ Array.replicate (fn.ntmps - args.size) undef, defers := [] } w) : Calls P f args w R :=
  callsIn_wide.1 (callsIn_of_wp_marks (n := n) hf hb trivial (wpIn_wide.2 h))

/-- The cells of points, three each. -/
def ps (l : List PT) : List Value := l.flatMap fun p => [.int .i64 p.1, .int .i64 p.2.1, .int .i64 p.2.2]
@[simp] theorem ps_length (l : List PT) : (ps l).length = l.length * 3 := by
  induction l with
  | nil => rfl
  | cons g l ih => simp only [ps, List.flatMap_cons, List.length_append, List.length_cons, List.length_nil] at ih ⊢; omega
@[simp] theorem ps_nil : ps [] = [] := rfl
theorem ps_cons (p : PT) (l : List PT) : ps (p :: l) = .int .i64 p.1 :: .int .i64 p.2.1 :: .int .i64 p.2.2 :: ps l := rfl
theorem ps_append (l m : List PT) : ps (l ++ m) = ps l ++ ps m := by simp [ps]
theorem ps_at {l : List PT} {k : Nat} (h : k < l.length) : (ps l)[k * 3]? = some (.int .i64 l[k].1) ∧ (ps l)[k * 3 + 1]? = some (.int .i64 l[k].2.1) ∧ (ps l)[k * 3 + 2]? = some (.int .i64 l[k].2.2) := by
  induction l generalizing k with
  | nil => simp at h
  | cons g l ih =>
    rw [ps_cons]
    cases k with
    | zero => exact ⟨rfl, rfl, rfl⟩
    | succ k =>
      have := ih (k := k) (by simpa using h)
      rw [show (k + 1) * 3 = k * 3 + 3 from by omega]
      simpa using this
theorem ps_one (l : List PT) : ∀ u ∈ ps l, u.oneCell' = true := by
  intro u hu
  obtain ⟨g, _, hg⟩ := List.mem_flatMap.1 hu
  simp at hg
  rcases hg with rfl | rfl | rfl <;> rfl
theorem Rd.p_at {w : World} {A : Option Addr} {l : List PT} (h : Rd w A (ps l)) {k : Nat} (hk : k < l.length) :
    ∃ b off, A = some ⟨b, off, none⟩ ∧ b < w.heap.size ∧ w.cell? ⟨b, off + k * 3, none⟩ = some (.int .i64 l[k].1) ∧ w.cell? ⟨b, off + k * 3 + 1, none⟩ = some (.int .i64 l[k].2.1) ∧ w.cell? ⟨b, off + k * 3 + 2, none⟩ = some (.int .i64 l[k].2.2) := by
  obtain ⟨b, off, rfl, hlt, hc⟩ := h (by intro e; have := congrArg List.length e; rw [ps_length, List.length_nil] at this; omega)
  obtain ⟨h1, h2, h3⟩ := ps_at hk
  exact ⟨b, off, rfl, hlt, hc _ _ h1, by rw [Nat.add_assoc]; exact hc _ _ h2, by rw [Nat.add_assoc]; exact hc _ _ h3⟩
theorem Rd.g_in {w : World} {b off : Nat} {l : List G} (h : Rd w (some ⟨b, off, none⟩) (gs l)) {k : Nat} (hk : k < l.length) :
    b < w.heap.size ∧ w.cell? ⟨b, off + k * 2, none⟩ = some (.int .i64 l[k].1) ∧ w.cell? ⟨b, off + k * 2 + 1, none⟩ = some (.int .i64 l[k].2) := by
  obtain ⟨b', off', e, h1, h2, h3⟩ := h.g_at hk
  cases e
  exact ⟨h1, h2, h3⟩
theorem Rd.p_in {w : World} {b off : Nat} {l : List PT} (h : Rd w (some ⟨b, off, none⟩) (ps l)) {k : Nat} (hk : k < l.length) :
    b < w.heap.size ∧ w.cell? ⟨b, off + k * 3, none⟩ = some (.int .i64 l[k].1) ∧ w.cell? ⟨b, off + k * 3 + 1, none⟩ = some (.int .i64 l[k].2.1) ∧ w.cell? ⟨b, off + k * 3 + 2, none⟩ = some (.int .i64 l[k].2.2) := by
  obtain ⟨b', off', e, h1, h2, h3, h4⟩ := h.p_at hk
  cases e
  exact ⟨h1, h2, h3, h4⟩
theorem Rd.keepS {S : Nat → Prop} {w w' : World} {A : Option Addr} {xs : List Value} (h : Rd w A xs) (hS : xs ≠ [] → ∀ b off, A = some ⟨b, off, none⟩ → S b) (hk : Keep S w w') : Rd w' A xs := by
  intro hx
  obtain ⟨b, off, rfl, hlt, hc⟩ := h hx
  exact ⟨b, off, rfl, Nat.lt_of_lt_of_le hlt hk.size, fun j u hu => (hk.cell (p := ⟨b, off + j, none⟩) (hS hx b off rfl)).trans (hc j u hu)⟩
theorem Rd.low {w : World} {A : Option Addr} {xs : List Value} (h : Rd w A xs) : xs ≠ [] → ∀ b off, A = some ⟨b, off, none⟩ → b < w.heap.size := by
  intro hx b off e
  obtain ⟨b', off', e', hlt, _⟩ := h hx
  rw [e] at e'
  injection e' with e'
  injection e' with e' _
  omega
theorem range_at {m x : Nat} {pre rest : List Nat} (h : List.range m = pre ++ x :: rest) : x = pre.length ∧ x < m := by
  have h1 : (List.range m)[pre.length]? = some x := by rw [h, List.getElem?_append_right (Nat.le_refl _)]; simp
  obtain ⟨h2, h3⟩ := List.getElem?_eq_some_iff.1 h1
  simp at h2 h3
  omega
end Go.Proofs.Ytdeehodekilaiaa

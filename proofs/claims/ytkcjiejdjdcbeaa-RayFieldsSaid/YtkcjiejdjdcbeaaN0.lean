/- Words for memory of a chapter without package code: what a region keeps, what a call leaves. Plain lemmas; no condition. -/
import Derived.Test.YtkcjiejdjdcbeaaProg
import Derived.Deep.DeepCutAuto
import Derived.Deep.Cut
import Derived.Laws.StructEq
import Derived.Lib.SmallJoins
import Derived.Outline
import Derived.OrdersHeld
import Derived.Test.YtkcjiejdjdcbeaaQA
set_option linter.unusedSimpArgs false
set_option linter.unusedVariables false
namespace Go.Proofs.Ytkcjiejdjdcbeaa
open Go.RowKit

theorem alloc_bel (w : World) (o : Obj) : Below w.heap.size w (w.alloc o) := (Below.refl _ _).alloc (Nat.le_refl _) o
theorem kp {W w' : World} (h : Below W.heap.size W w') : (∀ b o, b < W.heap.size → w'.cell? ⟨b, o, none⟩ = W.cell? ⟨b, o, none⟩) ∧ Below W.heap.size W w' := ⟨(bcell h).1, h⟩
theorem bel_alloc {W w' : World} {n : Nat} (h : Below n W w') (hn : n ≤ w'.heap.size) (o : Obj) : Below n W (w'.alloc o) := h.trans ((alloc_bel w' o).mono hn)
theorem bel_tr {W w' w1 : World} {n : Nat} (h : Below n W w') (hn : n ≤ w'.heap.size) (hb : Below w'.heap.size w' w1) : Below n W w1 := h.trans (hb.mono hn)

theorem calls_marks {P : Program} {f : FuncId} {fn : Func} {c : Code} {args : Array Value} {w : World} {R : Ending → World → Prop} (n : Nat) (hf : P.funcs[f]? = some fn) (hb : fn.body = some c)
    (h : c.wp P (bodyPostM Fence.wide n P fn R) { tmps := args ++ Array.replicate (fn.ntmps - args.size) undef, defers := [] } w) : Calls P f args w R :=
  callsIn_wide.1 (callsIn_of_wp_marks (n := n) hf hb trivial (wpIn_wide.2 h))

theorem Rd.keepS {S : Nat → Prop} {w w' : World} {A : Option Addr} {xs : List Value} (h : Rd w A xs) (hS : xs ≠ [] → ∀ b off, A = some ⟨b, off, none⟩ → S b) (hk : Keep S w w') : Rd w' A xs := by
  intro hx
  obtain ⟨b, off, rfl, hlt, hc⟩ := h hx
  exact ⟨b, off, rfl, Nat.lt_of_lt_of_le hlt hk.size, fun j u hu => (hk.cell (p := ⟨b, off + j, none⟩) (hS hx b off rfl)).trans (hc j u hu)⟩
theorem Rd.low {w : World} {A : Option Addr} {xs : List Value} (h : Rd w A xs) : xs ≠ [] → ∀ b off, A = some ⟨b, off, none⟩ → b < w.heap.size := by
  intro hx b off e
  obtain ⟨b', off', e', hlt, _⟩ := h hx
  rw [e] at e'
  injection e' with e'
  injection e' with e' _
  omega
theorem range_at {m x : Nat} {pre rest : List Nat} (h : List.range m = pre ++ x :: rest) : x = pre.length ∧ x < m := by
  have h1 : (List.range m)[pre.length]? = some x := by rw [h, List.getElem?_append_right (Nat.le_refl _)]; simp
  obtain ⟨h2, h3⟩ := List.getElem?_eq_some_iff.1 h1
  simp at h2 h3
  omega
theorem nextH {P : Program} {ops : Array Oper} {Q : Exit → Act → World → Prop} {md : Region.Mode} {S : World → Prop} {n : Nat} {l : Array Bool} {a : Act} {w : World} {i : Nat} {o : Oper} (hr : Region.ready md ops l = [i]) (ho : ops[i]? = some o)
    (h : ∀ K : Act → World → Prop, (∀ a w, S w → wpAnyH P md ops Q S n (l.setIfInBounds i true) a w → K a w) → if Region.wanted o (yielded ops a.tmps) = true then Oper.wp P o a w K Q else K (a.put o.dst undef) w) :
    wpAnyH P md ops Q S (n + 1) l a w := wpAnyH_all hr (by simp) (fun j hj => by
  rcases List.mem_singleton.1 hj with rfl
  exact wpOp_step ho fun K hK => h K fun a w hS hW => hK a w ⟨hS, hW⟩)
theorem nextH2 {P : Program} {ops : Array Oper} {Q : Exit → Act → World → Prop} {md : Region.Mode} {S : World → Prop} {n : Nat} {l : Array Bool} {a : Act} {w : World} {i j : Nat} {o o' : Oper} (hr : Region.ready md ops l = [i, j]) (ho : ops[i]? = some o) (ho' : ops[j]? = some o')
    (h : ∀ K : Act → World → Prop, (∀ a w, S w → wpAnyH P md ops Q S n (l.setIfInBounds i true) a w → K a w) → if Region.wanted o (yielded ops a.tmps) = true then Oper.wp P o a w K Q else K (a.put o.dst undef) w)
    (h' : ∀ K : Act → World → Prop, (∀ a w, S w → wpAnyH P md ops Q S n (l.setIfInBounds j true) a w → K a w) → if Region.wanted o' (yielded ops a.tmps) = true then Oper.wp P o' a w K Q else K (a.put o'.dst undef) w) :
    wpAnyH P md ops Q S (n + 1) l a w := wpAnyH_all hr (by simp) (fun k hk => by
  rcases List.mem_cons.1 hk with rfl | hk
  · exact wpOp_step ho fun K hK => h K fun a w hS hW => hK a w ⟨hS, hW⟩
  · rcases List.mem_singleton.1 hk with rfl
    exact wpOp_step ho' fun K hK => h' K fun a w hS hW => hK a w ⟨hS, hW⟩)
end Go.Proofs.Ytkcjiejdjdcbeaa

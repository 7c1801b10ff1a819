/- The law over all thicknesses: what it holds while it goes on. -/
import Derived.Test.YtdeehodekilaiaaZ0b
import Derived.Test.YtdeehodekilaiaaZ1b
import Derived.Test.YtdeehodekilaiaaK2
set_option linter.unusedSimpArgs false
set_option linter.unusedVariables false
namespace Go.Proofs.Ytdeehodekilaiaa
open Go.RowKit
set_option maxRecDepth 100000

theorem ps_set2_ {l : List PT} {k : Nat} (hk : k < l.length) (a b : Int) : ((ps l).set (k * 3 + 1) (.int .i64 a)).set (k * 3 + 2) (.int .i64 b) = ps (l.set k (l[k].1, a, b)) := by
  induction l generalizing k with
  | nil => simp at hk
  | cons g l ih =>
    cases k with
    | zero => rfl
    | succ k =>
      have := ih (k := k) (by simpa using hk)
      rw [List.set_cons_succ, ps_cons, ps_cons, show (k + 1) * 3 + 1 = k * 3 + 1 + 3 by omega, show (k + 1) * 3 + 2 = k * 3 + 2 + 3 by omega]
      simp only [List.set_cons_succ, List.getElem_cons_succ]
      rw [this]
theorem Try.infoZ : (Try.prog.info? 3).map (fun i => (i.zero, i.size, i.bytes)) = some (some (.int .i64 0), 1, 8) := by kernel_rfl
theorem field_slabs (a : Int) (v : Value) (w : World) : (Instr.field 24 (.agg #[.int .i64 a, v]) 1).run Try.prog w = .ok v w := by rfl
/-- What a sample's call returns, in one form. -/
theorem sampled_u (F H V : Option Addr) (fc hc vc : Nat) (fs ts vs : List Int) (B af wd sq : Int) (w : World) (hF : Rd w F (ints fs)) (hH : Rd w H (ints ts)) (hV : Rd w V (ints vs)) (hfx : fs.length ≤ maxLen) (htx : ts.length ≤ maxLen) (hvx : vs.length ≤ maxLen) :
    Calls Try.prog 14 #[.agg #[.slice F fs.length fc, .slice H ts.length hc, .slice V vs.length vc, .int .i64 B, .int .i64 af, .int .i64 wd, .int .i64 sq]] w fun r w' =>
      (∃ (B' : Int) (A : Option Addr) (n1 c : Nat) (P : Option Addr) (n2 d : Nat) (a2 w2 : Int) (ok : Bool), r = .returned (.tuple #[.agg #[.int .i64 B', .slice A n1 c], .agg #[.slice P n2 d, .int .i64 a2, .int .i64 w2], .bool ok]) ∧
        (ok = false ∨ (SampPre fs ts vs B af wd ∧ 0 ≤ sq ∧ sq < fs.getD af.toNat 0 * fs.getD af.toNat 0 ∧ B = B' ∧ n1 = fs.length ∧ n2 = fs.length ∧ af = a2 ∧ wd = w2 ∧ ok = true ∧ fs.length ≤ c ∧ RdT w' 47 A (gs (slabL fs ts)) ∧ w'.ownsRow w.heap.size 55 3 (.slice P fs.length d) fs.length (ps (bareL fs fs.length))))) ∧ Below w.heap.size w w' := by
  refine (sampled_c F H V fc hc vc fs ts vs B af wd sq w hF hH hV hfx htx hvx).mono ?_
  rintro r w' ⟨h, hb⟩
  refine ⟨?_, hb⟩
  rcases h with h | ⟨hp, A, c, P, d, h, hcp, ha, ho⟩
  · exact ⟨_, _, 0, 0, _, 0, 0, _, _, _, h, .inl rfl⟩
  · refine ⟨_, _, _, _, _, _, _, _, _, _, h, ?_⟩
    cases hq : outB sq 0 (fs.getD af.toNat 0 * fs.getD af.toNat 0 - 1) with
    | true => exact .inl rfl
    | false =>
      have := outB_false.1 hq
      exact .inr ⟨hp, this.1, by omega, rfl, by simp, rfl, rfl, rfl, rfl, hcp, ha, ho⟩

/-- What the law holds while it goes on. -/
structure ConI (F H V A P : Option Addr) (fc hc vc c d : Nat) (fs ts vs : List Int) (B af wd sq : Int) (ns : Nat) (sl : List G) (pl : List PT) (p g1 g2 bo : Nat) (w W : World) : Prop where
  x : Blk W p 42 [.slice F fs.length fc, .slice H ts.length hc, .slice V vs.length vc, .int .i64 B, .int .i64 af, .int .i64 wd, .int .i64 sq]
  s : Blk W g1 24 [.int .i64 B, .slice A ns c]
  t : Blk W g2 30 [.slice P fs.length d, .int .i64 af, .int .i64 wd]
  a : RdT W 47 A (gs sl)
  o : W.ownsRow bo 55 3 (.slice P fs.length d) fs.length (ps pl)
  b : Below p w W
  q1 : p < g1
  q2 : p < g2
  q3 : p ≤ bo
variable {F H V A P : Option Addr} {fc hc vc c d ns : Nat} {fs ts vs : List Int} {B af wd sq : Int} {sl : List G} {pl : List PT} {p g1 g2 bo : Nat} {w W W' : World}
theorem ConI.next (h : ConI F H V A P fc hc vc c d fs ts vs B af wd sq ns sl pl p g1 g2 bo w W) (hb : Below W.heap.size W W') : ConI F H V A P fc hc vc c d fs ts vs B af wd sq ns sl pl p g1 g2 bo w W' :=
  ⟨h.x.bel hb, h.s.bel hb, h.t.bel hb, h.a.bel hb, ownsRow_bel h.o hb, bel_tr h.b (Nat.le_of_lt h.x.lt) hb, h.q1, h.q2, h.q3⟩
theorem ConI.rd (h : ConI F H V A P fc hc vc c d fs ts vs B af wd sq ns sl pl p g1 g2 bo w W) (hp : w.heap.size = p) {X : Option Addr} {xs : List Value} (hX : Rd w X xs) : Rd W X xs := hX.below h.b (by omega)


theorem hts_get_ (l : List PT) (after width : Int) (L : List G) {k n : Nat} (hk : k < n) (h : k < (hts l after width L n).length) : (hts l after width L n)[k] = htL l after width L k := by
  induction n with
  | zero => omega
  | succ n ih =>
    rcases Nat.lt_or_ge k n with h1 | h1
    · have := ih h1 (by simpa using h1)
      simp only [hts]
      rw [List.getElem_append_left (by simpa using h1)]
      exact this
    · have : k = n := by omega
      subst this
      exact hts_last l after width L k h
theorem quiet_eq_ {f : FuncId} {args : Array Value} {w : World} {n : Nat} {v : Value}
    (h : Calls Try.prog f args (w.drewN n) fun e w' => e = .returned v ∧ w.drewN n = w') : Calls Try.prog f args (w.drewN n) fun e w'' => e = .returned v ∧ ∃ m, w'' = w.drewN m :=
  Calls.quiet_of_same (h.mono fun _ _ h => ⟨h.1, h.2.symm⟩)

theorem own_cells {W : World} {b : Nat} {e : TypeId} {s n : Nat} {v : Value} {xs : List Value} (h : W.ownsRow b e s v n xs) : ∀ k, v.ownBlock = some k → ∃ cs fr, W.heap[k]? = some (.cells cs e fr) := by
  intro k hk
  rcases h.2 with ⟨rfl, _⟩ | ⟨g', cap, cur, rfl, hb, hg, _⟩
  · simp [Value.ownBlock] at hk
  · simp only [Value.ownBlock, Option.some.injEq] at hk
    subst hk
    exact ⟨_, _, hg⟩
theorem own_far_row {W : World} {b b' : Nat} {e e' : TypeId} {s s' n n' c g : Nat} {v' : Value} {xs xs' : List Value} (h' : W.ownsRow b' e' s' v' n' xs') (h : W.ownsRow b e s (.slice (some ⟨g, 0, none⟩) n c) n xs) (hne : e ≠ e') (i : Nat) (u : Value) : (W.setCell ⟨g, i, none⟩ u).ownsRow b' e' s' v' n' xs' :=
  h'.kept (row := some g) ⟨rfl, rfl, rfl, by simp [World.setCell], fun k _ hne => Below.heap_setCell _ _ _ _ (fun e => hne (by rw [e]))⟩ (.inr (rows_apart h h' hne rfl))
theorem ConI.grown (h : ConI F H V A P fc hc vc c d fs ts vs B af wd sq ns sl pl p g1 g2 bo w W) {b1 n : Nat} {v : Value} {xs : List Value} {o : Obj} (hH : W.ownsRow b1 3 1 v n xs) (hg : (W.alloc o).grownBy W' v.ownBlock) (hpb : p ≤ b1) : ConI F H V A P fc hc vc c d fs ts vs B af wd sq ns sl pl p g1 g2 bo w W' :=
  ⟨blk_grown h.x hH (by decide) hg, blk_grown h.s hH (by decide) hg, blk_grown h.t hH (by decide) hg, (h.a.bel (alloc_bel _ _)).keep (KeepT.grown hg (own_cells (hH.alloc o)) (by decide)), row_grown h.o hH (by decide) hg,
    (bel_alloc h.b (Nat.le_of_lt h.x.lt) _).grown hg (by have := h.x.lt; simp; omega) (fun j hj => by have := (hH.lt j hj).1; omega), h.q1, h.q2, h.q3⟩
theorem ConI.stored {pb : Nat} (h : ConI F H V A (some ⟨pb, 0, none⟩) fc hc vc c d fs ts vs B af wd sq ns sl pl p g1 g2 bo w W) {k : Nat} (hk : k < pl.length) (x y : Int) :
    ConI F H V A (some ⟨pb, 0, none⟩) fc hc vc c d fs ts vs B af wd sq ns sl (pl.set k (pl[k].1, x, y)) p g1 g2 bo w ((W.setCell ⟨pb, k * 3 + 1, none⟩ (.int .i64 x)).setCell ⟨pb, k * 3 + 2, none⟩ (.int .i64 y)) := by
  have h1 := (h.o.stored (k * 3 + 1) (.int .i64 x)).1
  have h2 := (h1.stored (k * 3 + 2) (.int .i64 y)).1
  rw [ps_set2_ hk] at h2
  have hpb : bo ≤ pb := (h.o.lt pb rfl).1
  have q3 := h.q3
  obtain ⟨cs, fr, hc1⟩ := own_cells h.o pb rfl
  obtain ⟨cs2, fr2, hc2⟩ := own_cells h1 pb rfl
  exact ⟨blk_own (blk_own h.x h.o (by decide) _ _) h1 (by decide) _ _, blk_own (blk_own h.s h.o (by decide) _ _) h1 (by decide) _ _, blk_own (blk_own h.t h.o (by decide) _ _) h1 (by decide) _ _,
    (h.a.keep (KeepT.setCell hc1 (by decide) _ _)).keep (KeepT.setCell hc2 (by decide) _ _), h2, (h.b.setCell (by show p ≤ pb; omega) _).setCell (by show p ≤ pb; omega) _, h.q1, h.q2, h.q3⟩
theorem own_far_two {W : World} {b b' : Nat} {e e' : TypeId} {s s' n n' c g : Nat} {v' : Value} {xs xs' : List Value} (h' : W.ownsRow b' e' s' v' n' xs') (h : W.ownsRow b e s (.slice (some ⟨g, 0, none⟩) n c) n xs) (hne : e ≠ e') (i j : Nat) (u u' : Value) : ((W.setCell ⟨g, i, none⟩ u).setCell ⟨g, j, none⟩ u').ownsRow b' e' s' v' n' xs' :=
  own_far_row (own_far_row h' h hne i u) (h.stored i u).1 hne j u'
end Go.Proofs.Ytdeehodekilaiaa

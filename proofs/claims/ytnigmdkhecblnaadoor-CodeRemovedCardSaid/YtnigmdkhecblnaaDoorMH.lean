/- A group of texts (tools/groups.txt): Lift Open. No condition but those that each says. -/
import Derived.Test.YtnigmdkhecblnaaDoorMC
import Derived.Test.YtnigmdkhecblnaaDoorCards
import Derived.Test.YtnigmdkhecblnaaDoorTie
import Derived.ProofKit
import Derived.OpenShut
import Derived.Carry
import Derived.MakeChecks
import Derived.Lib.SmallJoins
import Derived.Deep.DeepHandedRow
import Derived.Deep.Slices
import Derived.ChangeSlices
set_option linter.unusedSimpArgs false
set_option linter.unusedVariables false
/- From a law's walk to its card: what the laid table gives; a world for the witness; that arguments read as they did. No condition. -/
namespace Go.Proofs.YtnigmdkhecblnaaDoor
open Go.RowKit Go.ChangeShapes Go.WideShapes Go.ChangeAt
set_option maxRecDepth 100000

theorem own : ownKnob Tryd.prog.godebug = none := by kernel_rfl
theorem laidOut : laidOutB Tryd.prog = true := by kernel_rfl
theorem gTab : Tryd.prog.globalNamed "skywave/code.powersOfI" = some 0 := by kernel_rfl
theorem gTabType : (Tryd.prog.globals[0]?).map (·.type) = some 111 := by kernel_rfl
theorem cellsTab : Tryd.prog.cellsOf 111 = 8 := by kernel_rfl
theorem cellsG : Tryd.prog.cellsOf 47 = 2 := by kernel_rfl
theorem cellsI : Tryd.prog.cellsOf 3 = 1 := by kernel_rfl

section
variable {H : Type} {enc : TypeId × Value → H} {w : World} {base : Nat} {sp : Nat → Bool} {held : Bool}
theorem gauss_of_trod {m : Nat} {cs : List Value} {x : DataW H × List MemPlace} (h : DataW.trod enc Tryd.prog w base sp held m 47 cs = some x) : ∃ u v, cs = [.int .i64 u, .int .i64 v] ∧ x.1 = .agg [.lit (.int .i64 u), .lit (.int .i64 v)] := by
  obtain ⟨y0, y1, n, rfl, hl, h0, h1⟩ := trod_struct2 Tryd.underlying47 h
  rw [cellsG] at hl
  simp only [cellsI] at h0 h1
  match cs, hl with
  | [a, b], _ =>
    obtain ⟨u, e0, rfl, _⟩ := DataW.trod_int Tryd.underlying3 h0
    obtain ⟨v, e1, rfl, _⟩ := DataW.trod_int Tryd.underlying3 h1
    simp at e0 e1
    exact ⟨u, v, by rw [e0, e1], rfl⟩
end

theorem tab_of_laid {W : World} (h : laidMetH Tryd.prog [("skywave/code.powersOfI", Rows.laid_skywave_code_powersOfI)] W) : Tab W := by
  rw [MakeChecks.laidMetH_plain _ _ _ (by kernel_rfl)] at h
  obtain ⟨ps, ⟨g0, t0, cs0, f0, p0, q0, hg0, ht0, hv0, hd0, _⟩, _⟩ := h
  obtain rfl := Option.some.inj (gTab.symm.trans hg0)
  obtain rfl := Option.some.inj (gTabType.symm.trans ht0)
  obtain ⟨xs, m, _, hx, hlen, hn, hel⟩ := DataW.trod_array Tryd.underlying111 hd0
  rw [cellsTab] at hlen
  have h0 := hel 0 (by decide)
  have h1 := hel 1 (by decide)
  have h2 := hel 2 (by decide)
  have h3 := hel 3 (by decide)
  rw [cellsG] at h0 h1 h2 h3
  match xs, hn with
  | [x0, x1, x2, x3], _ =>
    simp only [Rows.laid_skywave_code_powersOfI, Prod.mk.injEq, DataW.agg.injEq, List.map_cons, List.map_nil, List.cons.injEq, and_true] at hx
    obtain ⟨⟨e0, e1, e2, e3⟩, _⟩ := hx
    obtain ⟨u0, v0, c0, d0⟩ := gauss_of_trod h0
    obtain ⟨u1, v1, c1, d1⟩ := gauss_of_trod h1
    obtain ⟨u2, v2, c2, d2⟩ := gauss_of_trod h2
    obtain ⟨u3, v3, c3, d3⟩ := gauss_of_trod h3
    rw [← e0] at d0
    rw [← e1] at d1
    rw [← e2] at d2
    rw [← e3] at d3
    simp at d0 d1 d2 d3
    obtain ⟨rfl, rfl⟩ := d0
    obtain ⟨rfl, rfl⟩ := d1
    obtain ⟨rfl, rfl⟩ := d2
    obtain ⟨rfl, rfl⟩ := d3
    have hz : 0 < W.heap.size := by
      unfold World.var? at hv0
      rw [hg0] at hv0
      simp only [Option.bind_some] at hv0
      cases hh : W.heap[0]? with
      | none => rw [hh] at hv0; cases hv0
      | some o => exact (Array.getElem?_eq_some_iff.1 hh).1
    refine ⟨hz, fun i hi => ?_⟩
    have hc := World.var?_cell hg0 hv0 i
    obtain ⟨l⟩ := cs0
    match l, hlen with
    | [z0, z1, z2, z3, z4, z5, z6, z7], _ =>
      simp at c0 c1 c2 c3
      obtain ⟨rfl, rfl⟩ := c0
      obtain ⟨rfl, rfl⟩ := c1
      obtain ⟨rfl, rfl⟩ := c2
      obtain ⟨rfl, rfl⟩ := c3
      rw [hc]
      have e : i = 0 ∨ i = 1 ∨ i = 2 ∨ i = 3 ∨ i = 4 ∨ i = 5 ∨ i = 6 ∨ i = 7 := by omega
      rcases e with rfl | rfl | rfl | rfl | rfl | rfl | rfl | rfl <;> rfl

/-- A world for the witness: the settled one, the table (block 0) holding what its initialiser lays. -/
noncomputable def laidWorld (os : Os) : World :=
  { World.holding Tryd.prog os ⟨#[], #[], []⟩ with heap := (World.holding Tryd.prog os ⟨#[], #[], []⟩).heap.modify 0 fun
      | .cells _ t frozen => .cells #[.int .i64 1, .int .i64 0, .int .i64 0, .int .i64 1, .int .i64 (-1), .int .i64 0, .int .i64 0, .int .i64 (-1)] t frozen
      | o => o }

theorem trodAll_stay {P : Program} (hl : laidOutB P = true) {H : Type} {enc : TypeId × Value → H} {W W' : World} (hb : Below W.heap.size W W') (ts : List TypeId) :
    ∀ {vs : List Value} {ds : List (DataW H)} {ps : List MemPlace}, (ts.all fun t => P.readableRec t && decide (t < P.types.size)) = true → DataW.TrodAll enc P W 0 (fun _ => true) true ts vs ds ps →
      (∀ x ∈ ps, x.block < W.heap.size) → DataW.TrodAll enc P W' 0 (fun b => decide (b < W.heap.size)) true ts vs ds ps := by
  induction ts with
  | nil =>
    intro vs ds ps _ h _
    obtain ⟨rfl, rfl, rfl⟩ := trodAll_nil h
    exact trodAll_mk0
  | cons t ts ih =>
    intro vs ds ps ht h hlt
    obtain ⟨v, vs', d, ds', p, q, rfl, rfl, rfl, h0, hr⟩ := trodAll_cons h
    simp only [List.all_cons, Bool.and_eq_true] at ht
    exact trodAll_cons_mk (Below.trod hl ht.1.1 (of_decide_eq_true ht.1.2) h0 hb fun x hx => hlt x (by simp [hx]))
      (ih ht.2 hr fun x hx => hlt x (by simp [hx]))

/-- What a law's statement asks behind the call: true; the arguments read as they did. -/
theorem law_post {H : Type} {enc : TypeId × Value → H} {f : Func} {s : ChangeSpec} {W W' : World} {args : Array Value} {ds gs : List (DataW H)} {before : List MemPlace}
    (hW : DataW.Whole enc Tryd.prog f.params.toList s.vars false W args.toList ds gs before) (hvars : s.vars = []) (hts : (f.params.toList.all fun t => Tryd.prog.readableRec t && decide (t < Tryd.prog.types.size)) = true)
    (hres : f.resultTypes = #[4]) (hfn : s.fn H ds = { results := [.lit (.bool true)], args := ds }) (hb : Below W.heap.size W W') :
    s.post enc Tryd.prog f false true false false W args (.bool true) W' := by
  have hlt : ∀ p ∈ before, p.block < W.heap.size := fun p hp => hW.lt p hp
  have hW' := hW
  obtain ⟨p, q, hA, hV, rfl, hfz, _⟩ := hW
  rw [hvars] at hV
  obtain ⟨rfl, rfl⟩ := trodVars_none hV
  have hfn' : s.fn H (ds ++ []) = { results := [.lit (.bool true)], args := ds } := by rw [List.append_nil]; exact hfn
  refine ⟨ds, [], p ++ [], [], p, [], hW', ?_, ?_, ?_, World.keptBut_mono (fun x hx => ⟨hx, ?_⟩) (hb.frame (· ∈ p ++ [])), fun h => by cases h⟩
  · rw [hfn', hres]
    exact trodAll_cons_mk (p := []) (shut_bool Tryd.underlying4 _) trodAll_mk0
  · rw [hfn']
    exact trodAll_stay laidOut hb _ hts hA fun x hx => hlt x (by simpa using hx)
  · rw [hfn', hvars]
    exact hV
  · exact .inr (.inl (by simpa using hx))
end Go.Proofs.YtnigmdkhecblnaaDoor

/- Arguments opened: slices of numbers and of whole complex numbers as lists that are read. No condition. -/
namespace Go.Proofs.YtnigmdkhecblnaaDoor
open Go.RowKit Go.ChangeShapes Go.WideShapes Go.ChangeAt
set_option maxRecDepth 100000

theorem list_of_all {α : Type} {P : Nat → α → Prop} (n : Nat) (h : ∀ i, i < n → ∃ g, P i g) : ∃ l : List α, l.length = n ∧ ∀ i (hi : i < l.length), P i l[i] := by
  induction n with
  | zero => exact ⟨[], rfl, fun i hi => absurd hi (Nat.not_lt_zero _)⟩
  | succ n ih =>
    obtain ⟨l, hl, hp⟩ := ih fun i hi => h i (by omega)
    obtain ⟨g, hg⟩ := h n (by omega)
    refine ⟨l ++ [g], by simp [hl], fun i hi => ?_⟩
    by_cases e : i < l.length
    · rw [List.getElem_append_left e]; exact hp i e
    · have e' : i = n := by simp at hi; omega
      subst e'
      rw [List.getElem_append_right (by omega)]
      simpa [hl] using hg

section
variable {H : Type} {enc : TypeId × Value → H} {w : World} {base : Nat} {sp : Nat → Bool} {held : Bool}

theorem open_ints_rd {m : Nat} {v : Value} {x : DataW H × List MemPlace} (h : DataW.trod enc Tryd.prog w base sp held m 23 [v] = some x) :
    ∃ A l c, v = .slice A l.length c ∧ Rd w A (ints l) ∧ l.length ≤ maxLen ∧ ∀ n ∈ l, (Lit.int .i64 n).wf = true := by
  rcases open_ints Tryd.underlying23 Tryd.underlying3 cellsI h with ⟨h1, _⟩ | ⟨a, len, cap, zs, h1, _, hl, hm, hz, _, hcell, hwz⟩
  · simp only [List.cons.injEq, and_true] at h1
    exact ⟨none, [], 0, h1, Rd.nil _ _, by simp, fun _ h => by cases h⟩
  · simp only [List.cons.injEq, and_true] at h1
    have hzl : len ≤ zs.length := by rw [hz]; split <;> omega
    refine ⟨some a, zs.take len, cap, by rw [List.length_take, Nat.min_eq_left hzl]; exact h1, fun hx => ?_, by rw [List.length_take]; omega, fun n hn => hwz n (List.mem_of_mem_take hn)⟩
    have hp : 0 < len := by
      rcases Nat.eq_zero_or_pos len with h0 | h0
      · subst h0; simp at hx
      · exact h0
    obtain ⟨b, off, spot⟩ := a
    have hspot : spot = none := by simpa [Addr.add] using World.cell?_spot (hcell 0 (by omega))
    subst hspot
    have hc : ∀ j, j < zs.length → w.cell? ⟨b, off + j, none⟩ = some (.int .i64 (zs.getD j 0)) := fun j hj => by rw [← add_plain]; exact hcell j hj
    refine ⟨b, off, rfl, World.block_lt_of_cell? _ _ (hc 0 (by omega)), fun j u hu => ?_⟩
    have hj : j < (zs.take len).length := by have := (List.getElem?_eq_some_iff.1 hu).1; simpa using this
    have hj2 : j < len := by rw [List.length_take] at hj; omega
    rw [ints_at hj] at hu
    rw [hc j (by omega), ← hu]
    simp [List.getD, show j < zs.length from by omega]

theorem open_gs_rd {m : Nat} {v : Value} {x : DataW H × List MemPlace} (h : DataW.trod enc Tryd.prog w base sp held m 22 [v] = some x) :
    ∃ A l c, v = .slice A l.length c ∧ Rd w A (gs l) ∧ l.length ≤ maxLen := by
  rcases Go.Deep.open_slice Tryd.underlying22 h with ⟨h1, _⟩ | ⟨a, len, cap, m', n, D, Pl, h1, _, hl, hm, hmm, _, hel⟩
  · simp only [List.cons.injEq, and_true] at h1
    exact ⟨none, [], 0, h1, Rd.nil _ _, by simp⟩
  · simp only [List.cons.injEq, and_true] at h1
    have hml : len ≤ m' := by rw [hmm]; split <;> omega
    have hg : ∀ i, i < len → ∃ g : Int × Int, w.cell? ((a.add (i * 2)).add 0) = some (.int .i64 g.1) ∧ w.cell? ((a.add (i * 2)).add 1) = some (.int .i64 g.2) := fun i hi => by
      obtain ⟨cs', hc, ht⟩ := hel i (by omega)
      rw [cellsG] at hc
      obtain ⟨u, v, rfl, _⟩ := gauss_of_trod ht
      obtain ⟨_, _, hat⟩ := World.cells?_some hc
      exact ⟨(u, v), hat 0 (by omega), hat 1 (by omega)⟩
    obtain ⟨l, hll, hlp⟩ := list_of_all (P := fun i (g : Int × Int) => w.cell? ((a.add (i * 2)).add 0) = some (.int .i64 g.1) ∧ w.cell? ((a.add (i * 2)).add 1) = some (.int .i64 g.2)) len hg
    refine ⟨some a, l, cap, by rw [hll]; exact h1, fun hx => ?_, by omega⟩
    have hp : 0 < l.length := by
      rcases Nat.eq_zero_or_pos l.length with h0 | h0
      · rw [List.eq_nil_of_length_eq_zero h0] at hx; exact absurd rfl hx
      · exact h0
    obtain ⟨b, off, spot⟩ := a
    have hspot : spot = none := by simpa [Addr.add] using World.cell?_spot (hlp 0 hp).1
    subst hspot
    simp only [add_plain] at hlp
    refine ⟨b, off, rfl, World.block_lt_of_cell? _ _ (hlp 0 hp).1, fun j u hu => ?_⟩
    have hj : j < l.length * 2 := by have := (List.getElem?_eq_some_iff.1 hu).1; rwa [gs_length] at this
    have hq : j / 2 < l.length := by omega
    obtain ⟨h0, h1'⟩ := gs_at hq
    have hd : j = j / 2 * 2 + 0 ∨ j = j / 2 * 2 + 1 := by omega
    rcases hd with e | e
    · rw [e] at hu ⊢
      rw [Nat.add_zero] at hu
      rw [h0] at hu
      rw [← hu, ← Nat.add_assoc]
      exact (hlp _ hq).1
    · rw [e] at hu ⊢
      rw [h1'] at hu
      rw [← hu, ← Nat.add_assoc]
      exact (hlp _ hq).2
end

/-- A slice as a parameter: its one cell. -/
theorem trod_of_slice {H : Type} {enc : TypeId × Value → H} {w : World} {base b0 : Nat} {sp : Nat → Bool} {held : Bool} {r : Reach} {t e : TypeId} {v : Value} {d : DataW H} {p : List MemPlace} (ht : Tryd.prog.underlying t = some (.slice e))
    (hv : Value.okWide Tryd.prog w r b0 t v) (h : DataW.Trod enc Tryd.prog w base sp held t v d p) : ∃ m, DataW.trod enc Tryd.prog w base sp held m t [v] = some (d, p) := by
  obtain ⟨a, n, c, rfl⟩ := okWide_slice ht hv
  obtain ⟨m, hm⟩ := h
  exact ⟨m, hm⟩
end Go.Proofs.YtnigmdkhecblnaaDoor


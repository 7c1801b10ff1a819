/- Contracts: the reference's copy of a sky. -/
import Derived.Test.YtkcjiejdjdcbeaaRy2
set_option linter.unusedSimpArgs false
set_option linter.unusedVariables false
set_option linter.unusedSimpArgs false
set_option linter.unusedVariables false
namespace Go.Proofs.Ytkcjiejdjdcbeaa
open Go.RowKit
set_option maxRecDepth 100000

theorem two_new (W : World) (t u : TypeId) (a d : List Value) : Blk ((W.alloc (.cells a.toArray t)).alloc (.cells d.toArray u)) W.heap.size t a ∧ Blk ((W.alloc (.cells a.toArray t)).alloc (.cells d.toArray u)) (W.heap.size + 1) u d ∧ Below W.heap.size W ((W.alloc (.cells a.toArray t)).alloc (.cells d.toArray u)) := by
  have h := Blk.new (W.alloc (.cells a.toArray t)) u d
  rw [show (W.alloc (.cells a.toArray t)).heap.size = W.heap.size + 1 by simp] at h
  exact ⟨(Blk.new W t a).bel (alloc_bel _ _), h, bel_alloc (alloc_bel W _) (by simp) _⟩
theorem own_capI {w : World} {base : Nat} {e : TypeId} {size n m c : Nat} {A : Option Addr} {xs : List Value} (h : w.ownsRow base e size (.slice A m c) n xs) : n ≤ c := by
  rcases h.2 with ⟨h', h0⟩ | ⟨g, cap, cur, h', _, _, hnc, _⟩
  · omega
  · cases h'
    exact hnc

/-- At a step of a region: 'append(s, x...)', s the call's own, x a slice that reads as these cells (nil, too). -/
theorem step_append_rd {P : Program} (w : World) {ops : Array Oper} {o : Oper} {a : Act} {K : Act → World → Prop} {Q : Exit → Act → World → Prop} {E : Prop} (hgd : o.guard = none) (s x : Operand) (t : TypeId)
    (ho : o.op = .call { callee := .builtin .append, args := #[s, x], argTypes := #[t, t] })
    (base : Nat) (e : TypeId) (i : TypeInfo) (z : Value) (size bytes : Nat) (ht : P.underlying t = some (.slice e)) (hi : P.info? e = some i) (hz : i.zero = some z)
    (hsize : i.size = size) (hby : i.bytes = bytes) (hzs : z.cells.size = size) (hsz : 0 < size)
    (v : Value) (n : Nat) (xs : List Value) (hs : a.eval s = v) (hown : w.ownsRow base e size v n xs)
    (A : Option Addr) (m c : Nat) (news : List Value) (hx : a.eval x = .slice A m c) (hl : news.length = m * size) (hr : Rd w A news) (h1 : ∀ u ∈ news, u.oneCell' = true)
    (h63 : n + m ≤ maxLen) (hbytes : (n + m) * bytes ≤ 140737488355328) (hbase : base ≤ w.heap.size)
    (h : ∀ v' w', w'.ownsRow base e size v' (n + m) (xs ++ news) → w.grownBy w' v.ownBlock → K (a.put o.dst v') w') :
    if Region.wanted o (yielded ops a.tmps) = true then Oper.wp P o a w K Q else E := by
  have hw : Region.wanted o (yielded ops a.tmps) = true := by simp [Region.wanted, hgd]
  by_cases hm : m = 0
  · rw [if_pos hw]
    subst hm
    have hn : news = [] := List.eq_nil_of_length_eq_zero (by simpa using hl)
    subst hn
    have hrun : (Builtin.append_ #[t, t] o.type #[v, .slice A 0 c]).run P w = .ok v w := by
      rcases hown.2 with ⟨rfl, rfl⟩ | ⟨g, cap, cur, rfl, _, _, hnc, _⟩
      · cases A <;> simp [Builtin.append_, run_underlying ht, sizeOf, typeInfo, hi, Builtin.lenOf, Builtin.firstCells, loadCells, loadCellsFrom, Result.andThen]
      · cases A <;> simp [Builtin.append_, run_underlying ht, sizeOf, typeInfo, hi, Builtin.lenOf, Builtin.firstCells, hnc, storeCells, loadCells, loadCellsFrom, Result.andThen]
    unfold Oper.wp
    simp [execOp, ho, resolve, invoke, builtin, hs, hx, hrun, Result.andThen]
    exact h v w (by simpa using hown) ⟨rfl, rfl, rfl, Nat.le_refl _, fun _ _ _ => rfl⟩
  · have hne : news ≠ [] := by
      rintro rfl
      have := Nat.mul_pos (show 0 < m by omega) hsz
      simp at hl
      omega
    obtain ⟨b, off, hA, _, hc⟩ := hr hne
    subst hA
    have hnews : ∀ j u, news[j]? = some u → w.cell? ((⟨b, off, none⟩ : Addr).add j) = some u := by
      intro j u hu
      have hadd : (⟨b, off, none⟩ : Addr).add j = ⟨b, off + j, none⟩ := by unfold Addr.add; split <;> simp_all
      rw [hadd]
      exact hc j u hu
    exact step_append_lies w hgd s x t ho base e i z size bytes ht hi hz hsize hby hzs hsz v n xs hs hown _ m c news hx hl hnews h1 (by omega) h63 hbytes hbase _ rfl fun g cap w' h2 h3 _ _ => h _ w' h2 h3

theorem own_far {W : World} {base : Nat} {e : TypeId} {size n : Nat} {v : Value} {xs : List Value} (h : W.ownsRow base e size v n xs) {p : Addr} (hB : p.block < base) (u : Value) : (W.setCell p u).ownsRow base e size v n xs := by
  refine h.kept (row := some p.block) ⟨rfl, rfl, rfl, by simp [World.setCell], fun k _ hne => Below.heap_setCell _ _ _ _ (fun e => hne (by rw [e]))⟩ (.inr ?_)
  intro he
  have := (h.lt p.block he).1
  omega
theorem Try.infoS : (Try.prog.info? 79).map (fun i => (i.zero, i.size, i.bytes)) = some (some (.agg #[.int .i64 0, .int .i64 0]), 2, 16) := by kernel_rfl
set_option maxHeartbeats 1000000 in
theorem copySky_c (base : Int) (A : Option Addr) (c : Nat) (l : List G) (w : World) (hr : Rd w A (gs l)) (hl : l.length ≤ 1000) :
    Calls Try.prog 18 #[.agg #[.int .i64 base, .slice A l.length c]] w fun r w' => (∃ A' c', r = .returned (.agg #[.int .i64 base, .slice A' l.length c']) ∧ Rd w' A' (gs l) ∧ l.length ≤ c') ∧ Below w.heap.size w w' := by
  obtain ⟨i0, hi, iz0, iz1, iz2⟩ := info_parts Try.infoS
  obtain ⟨W0, hW0⟩ : ∃ W0, (w.alloc (.cells #[.int .i64 base, .slice A l.length c] 24)).alloc (.cells #[.int .i64 0, .slice none 0 0] 24) = W0 := ⟨_, rfl⟩
  obtain ⟨p, hp⟩ : ∃ p, w.heap.size = p := ⟨_, rfl⟩
  have hX0 : Blk W0 p 24 [.int .i64 base, .slice A l.length c] := by rw [← hW0, ← hp]; exact (two_new w _ _ [_, _] [_, _]).1
  have hR0 : Blk W0 (p + 1) 24 [.int .i64 0, .slice none 0 0] := by rw [← hW0, ← hp]; exact (two_new w _ _ [_, _] [_, _]).2.1
  have hB0 : Below p w W0 := by rw [← hW0, ← hp]; exact (two_new w _ _ [_, _] [_, _]).2.2
  have hr0 := hr.bel (by rw [hp]; exact hB0)
  have HW := hide hW0
  clear hW0 hr
  have c0 := hX0.cell 0; have c1 := hX0.cell 1; simp only [List.getElem?_cons_zero, List.getElem?_cons_succ] at c0 c1
  have z0 := hR0.lt
  go_enter Try.func18, Try.ntmps18
  go_upto_region 1 with fail
  rw [HW.out]
  refine wp_region_held (S := fun w' => w'.cell? ⟨p, 0, none⟩ = some (.int .i64 base) ∧ w'.cell? ⟨p, 1, none⟩ = some (.slice A l.length c)) (by kernel_rfl) ?_
  have hSd : W0.drew.cell? ⟨p, 0, none⟩ = some (.int .i64 base) ∧ W0.drew.cell? ⟨p, 1, none⟩ = some (.slice A l.length c) := ⟨c0, c1⟩
  change wpAnyH _ _ _ _ _ _ _ _ W0.drew
  clear c0 c1
  refine wpAnyH_take (i := 0) (v := ?_) rfl (by kernel_rfl) (by kernel_rfl) (by kernel_rfl) (fun _ _ _ h => h) (Or.inl ⟨by kernel_rfl, ?_⟩) (by assumption) ?_
  rotate_left 1
  · (intro w hSw; obtain ⟨hk1, hk2⟩ := hSw; go_simp <;> with_reducible rfl)
  simp only [Act.put, List.getElem_toArray, List.getElem_cons_zero, List.setIfInBounds_toArray, List.set_cons_zero, List.set_cons_succ]
  refine wpAnyH_take (i := 1) (v := ?_) rfl (by kernel_rfl) (by kernel_rfl) (by kernel_rfl) (fun _ _ _ h => h) (Or.inl ⟨by kernel_rfl, ?_⟩) (by assumption) ?_
  rotate_left 1
  · (intro w hSw; obtain ⟨hk1, hk2⟩ := hSw; go_simp <;> with_reducible rfl)
  simp only [Act.put, List.getElem_toArray, List.getElem_cons_zero, List.getElem_cons_succ, List.setIfInBounds_toArray, List.set_cons_zero, List.set_cons_succ]
  refine wpAnyH_take (i := 3) (v := ?_) rfl (by kernel_rfl) (by kernel_rfl) (by kernel_rfl) (fun _ _ _ h => h) (Or.inl ⟨by kernel_rfl, ?_⟩) (by assumption) ?_
  rotate_left 1
  · (intro w hSw; obtain ⟨hk1, hk2⟩ := hSw; go_simp <;> with_reducible rfl)
  simp only [Act.put, List.getElem_toArray, List.getElem_cons_zero, List.getElem_cons_succ, List.setIfInBounds_toArray, List.set_cons_zero, List.set_cons_succ]
  refine wpAnyH_take (i := 4) (v := ?_) rfl (by kernel_rfl) (by kernel_rfl) (by kernel_rfl) (fun _ _ _ h => h) (Or.inl ⟨by kernel_rfl, ?_⟩) (by assumption) ?_
  rotate_left 1
  · (intro w hSw; obtain ⟨hk1, hk2⟩ := hSw; go_simp <;> with_reducible rfl)
  simp only [Act.put, List.getElem_toArray, List.getElem_cons_zero, List.getElem_cons_succ, List.setIfInBounds_toArray, List.set_cons_zero, List.set_cons_succ]
  refine nextH (i := 2) (by kernel_rfl) rfl (fun K hK => ?_)
  go_simp
  obtain ⟨W5, hW5⟩ : ∃ W5, (W0.alloc (.cells #[] 79)).drew = W5 := ⟨_, rfl⟩
  have hb5 : Below W0.heap.size W0 W5 := by rw [← hW5]; exact (alloc_bel _ _).drew
  have hown5 : W5.ownsRow W0.heap.size 79 2 (.slice (some ⟨W0.heap.size, 0, none⟩) 0 0) 0 [] := by rw [← hW5]; exact World.ownsRow_made W0 #[] 0 (Nat.le_refl _) (by unfold maxLen; omega) rfl
  have hX5 := hX0.bel hb5
  have hR5 := hR0.bel hb5
  have hr5 := hr0.bel hb5
  have hS5 : W5.cell? ⟨p, 0, none⟩ = some (.int .i64 base) ∧ W5.cell? ⟨p, 1, none⟩ = some (.slice A l.length c) := ⟨hX5.cell 0, hX5.cell 1⟩
  have hs5 : W0.heap.size ≤ W5.heap.size := hb5.size
  rw [hW5]
  clear hW5 hSd
  try dsimp only
  refine hK _ _ hS5 ?_
  clear hK K
  refine nextH (i := 5) (by kernel_rfl) rfl (fun K hK => ?_)
  refine step_append_rd _ (by rfl) _ _ _ (by rfl) W0.heap.size 79 i0 _ 2 16 Try.underlying22 hi iz0 iz1 iz2 rfl (by decide) (.slice (some ⟨W0.heap.size, 0, none⟩) 0 0) 0 [] (by rfl) hown5 A l.length c (gs l) (by rfl) (by simp) hr5 (gs_one l) (by unfold maxLen; omega) (by omega) hs5 ?_
  intro v6 W6 hown6 hg6
  obtain ⟨A6, c6, rfl⟩ := ownsRow_slice hown6
  have hcap6 : l.length ≤ c6 := by have := own_capI hown6; omega
  have hX6 : Blk W6 p 24 [.int .i64 base, .slice A l.length c] := (hg6.block p hX5.lt (fun e => by have e' : some p = some W0.heap.size := e; have := Option.some.inj e'; omega)).trans hX5
  have hR6 : Blk W6 (p + 1) 24 [.int .i64 0, .slice none 0 0] := (hg6.block (p + 1) hR5.lt (fun e => by have e' : some (p + 1) = some W0.heap.size := e; have := Option.some.inj e'; omega)).trans hR5
  have hS6 : W6.cell? ⟨p, 0, none⟩ = some (.int .i64 base) ∧ W6.cell? ⟨p, 1, none⟩ = some (.slice A l.length c) := ⟨hX6.cell 0, hX6.cell 1⟩
  have hB6 : Below p w W6 := (hB0.trans (hb5.mono (by omega))).grown hg6 (by omega) (fun j hj => by have e' : some W0.heap.size = some j := hj; have := Option.some.inj e'; omega)
  simp only [Act.put, List.getElem_toArray, List.getElem_cons_zero, List.getElem_cons_succ, List.setIfInBounds_toArray, List.set_cons_zero, List.set_cons_succ]
  refine hK _ _ hS6 ?_
  clear hK K
  refine nextH (i := 6) (by kernel_rfl) rfl (fun K hK => ?_)
  go_simp
  refine hK _ _ hS6 ?_
  clear hK K
  have r0 := hR6.frozen 0
  have r1 := hR6.frozen 1
  have r2 := hR6.cell 0
  have r3 := hR6.cell 1
  have r4 := hR6.lt
  simp only [List.getElem?_cons_zero, List.getElem?_cons_succ] at r2 r3
  refine nextH (i := 7) (by kernel_rfl) rfl (fun K hK => ?_)
  go_simp
  have hBE : Below p w ((W6.setCell ⟨p + 1, 0, none⟩ (.int .i64 base)).setCell ⟨p + 1, 1, none⟩ (.slice A6 l.length c6)) := (hB6.setCell (by show p ≤ p + 1; omega) _).setCell (by show p ≤ p + 1; omega) _
  have hRE := (hR6.set_ 0 (.int .i64 base)).set_ 1 (.slice A6 l.length c6)
  have hXE := (hX6.far (p := ⟨p + 1, 0, none⟩) (by show p ≠ p + 1; omega) (.int .i64 base)).far (p := ⟨p + 1, 1, none⟩) (by show p ≠ p + 1; omega) (.slice A6 l.length c6)
  have hrE := Rd.of_own (own_far (own_far hown6 (p := ⟨p + 1, 0, none⟩) (by show p + 1 < W0.heap.size; omega) (.int .i64 base)) (p := ⟨p + 1, 1, none⟩) (by show p + 1 < W0.heap.size; omega) (.slice A6 l.length c6))
  generalize (W6.setCell ⟨p + 1, 0, none⟩ (.int .i64 base)).setCell ⟨p + 1, 1, none⟩ (.slice A6 l.length c6) = WE at hBE hRE hXE hrE ⊢
  refine hK _ _ ⟨hXE.cell 0, hXE.cell 1⟩ ?_
  clear hK K
  refine wpAnyH_done (by kernel_rfl) ?_ _
  have v0 := hRE.cell 0
  have v1 := hRE.cell 1
  simp only [List.set_cons_zero, List.set_cons_succ, List.getElem?_cons_zero, List.getElem?_cons_succ] at v0 v1
  go_wp2
  exact bodyPost_ret (v := .agg #[.int .i64 base, .slice A6 l.length c6]) (by simp [results, Try.results18, go_sem, v0, v1]; try rfl) rfl ⟨⟨A6, c6, rfl, by simpa using hrE, hcap6⟩, by first | exact hBE | (rw [hp]; exact hBE)⟩

end Go.Proofs.Ytkcjiejdjdcbeaa

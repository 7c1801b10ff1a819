/- Contracts: half of a ray's way, its ground distance. -/
import Derived.Test.YtkcjiejdjdcbeaaRy10
set_option linter.unusedSimpArgs false
set_option linter.unusedVariables false
set_option linter.unusedSimpArgs false
set_option linter.unusedVariables false
namespace Go.Proofs.Ytkcjiejdjdcbeaa
open Go.RowKit
set_option maxRecDepth 100000
attribute [local go_sem] Oper.semAt_some


/-- The sum of ranges. -/
def sumQ (L : List G) : G := L.foldl (fun s x => (s.1 + x.1, s.2 + x.2)) (0, 0)
theorem sumQ_snoc (L : List G) (x : G) : sumQ (L ++ [x]) = ((sumQ L).1 + x.1, (sumQ L).2 + x.2) := by simp [sumQ, List.foldl_append]
/-- Legs of a length that is possible. -/
def LegOk (x : G) : Prop := 0 ≤ x.1 ∧ x.1 ≤ 2147483649 ∧ 0 ≤ x.2 ∧ x.2 ≤ 2147483649
theorem sumQ_bd : ∀ (n : Nat) (L : List G), L.length = n → (∀ x ∈ L, LegOk x) → 0 ≤ (sumQ L).1 ∧ (sumQ L).1 ≤ n * 2147483649 ∧ 0 ≤ (sumQ L).2 ∧ (sumQ L).2 ≤ n * 2147483649
  | 0, L, h, _ => by
    rw [List.length_eq_zero_iff] at h
    subst h
    simp [sumQ]
  | n + 1, L, h, hx => by
    have hne : L ≠ [] := by intro e; subst e; simp at h
    have hs := List.dropLast_concat_getLast hne
    have h1 := sumQ_bd n L.dropLast (by simp [h]) (fun x hx' => hx x (List.dropLast_subset L hx'))
    have h2 := hx _ (List.getLast_mem hne)
    rw [← hs, sumQ_snoc]
    unfold LegOk at h2
    push_cast
    omega
theorem rootQ_ok {n d : Int} (h0 : 0 ≤ n) (h1 : n ≤ 4000000000000000000) (d0 : 1 ≤ d) : LegOk (rootQ n d) := by
  have h := root_bd h0 h1 d0
  unfold rootQ LegOk
  split <;> (dsimp only; omega)
theorem legs_ok {H f n d : Int} {l : List G} (hok : OkS l) (H0 : 0 ≤ H) (H1 : H ≤ 500) (h1 : 1 ≤ f) (h2 : f ≤ 3000) (n0 : 0 ≤ n) (n1 : n < d) (d1 : d ≤ 100) : ∀ x ∈ legsL H f n d l, LegOk x := by
  intro x hx
  unfold legsL at hx
  rcases List.mem_cons.1 hx with rfl | hx
  · have m := leg_bd h1 h2 (show (0 : Int) ≤ 0 by omega) (by omega) n0 n1 d1 H0 H1 (hit_free h1 h2 n1 H)
    exact rootQ_ok m.2.2.2.2.1 (by omega) m.2.2.2.2.2.2.1
  · obtain ⟨g, hg, rfl⟩ := List.mem_map.1 hx
    obtain ⟨k, hk, rfl⟩ := List.getElem_of_mem hg
    have hk' : k < pasN f n d l ∧ k < l.length := by simp at hk; omega
    rw [List.getElem_take]
    have o := hok _ (List.getElem_mem hk'.2)
    have m := leg_bd h1 h2 o.2.2.1 o.2.2.2 n0 n1 d1 (by omega) o.2.1 (t := l[k].1) (pas_not hk'.1 hk'.2)
    exact rootQ_ok m.2.2.2.2.1 (by omega) m.2.2.2.2.2.2.1
def halfQ (H f n d : Int) (l : List G) : G := sumQ (legsL H f n d l)
set_option maxHeartbeats 8000000 in
theorem half_c (H f n d : Int) (A : Option Addr) (c : Nat) (l : List G) (w : World) (hr : Rd w A (gs l)) (hl : l.length ≤ 1000) (hl1 : 1 ≤ l.length) (hc : l.length ≤ c) (hok : OkS l) (H0 : 0 ≤ H) (H1 : H ≤ 500) (h1 : 1 ≤ f) (h2 : f ≤ 3000) (n0 : 0 ≤ n) (n1 : n < d) (d1 : d ≤ 100) :
    Calls Try.prog 148 #[.agg #[.int .i64 H, .slice A l.length c, .int .i64 f, .int .i64 n, .int .i64 d]] w fun r w' => r = .returned (.agg #[.int .i64 (halfQ H f n d l).1, .int .i64 (halfQ H f n d l).2]) ∧ Below w.heap.size w w' := by
  have hLok := legs_ok (l := l) hok H0 H1 h1 h2 n0 n1 d1
  have hLlen := legsL_len H f n d l
  have hpl := pasN_le f n d l
  obtain ⟨p, hp⟩ : ∃ p, w.heap.size = p := ⟨_, rfl⟩
  obtain ⟨W, hW⟩ : ∃ W, ((w.alloc (.cells #[.int .i64 H, .slice A l.length c, .int .i64 f, .int .i64 n, .int .i64 d] 159)).alloc (.cells #[.int .i64 0, .int .i64 0] 55)).alloc (.cells #[.int .i64 0, .int .i64 0] 55) = W := ⟨_, rfl⟩
  have hB0 : Below p w W := by rw [← hW, ← hp]; exact bel_alloc (bel_alloc (alloc_bel _ _) (by simp) _) (by simp; omega) _
  have hS0 : Blk W p 159 [.int .i64 H, .slice A l.length c, .int .i64 f, .int .i64 n, .int .i64 d] := by rw [← hW, ← hp]; exact ((Blk.new w _ [_, _, _, _, _]).bel (alloc_bel _ _)).bel (alloc_bel _ _)
  have hR0 : Blk W (p + 1) 55 [.int .i64 0, .int .i64 0] := by
    rw [← hW, ← hp]
    have := (Blk.new (w.alloc (.cells #[.int .i64 H, .slice A l.length c, .int .i64 f, .int .i64 n, .int .i64 d] 159)) 55 [.int .i64 0, .int .i64 0]).bel (alloc_bel _ (.cells #[.int .i64 0, .int .i64 0] 55))
    simpa using this
  have hM0 : Blk W (p + 1 + 1) 55 [.int .i64 0, .int .i64 0] := by
    rw [← hW, ← hp]
    have := Blk.new ((w.alloc (.cells #[.int .i64 H, .slice A l.length c, .int .i64 f, .int .i64 n, .int .i64 d] 159)).alloc (.cells #[.int .i64 0, .int .i64 0] 55)) 55 [.int .i64 0, .int .i64 0]
    simpa using this
  have hsz : W.heap.size = p + 3 := by rw [← hW, ← hp]; simp
  have hrW := hr.bel (show Below w.heap.size w W by rw [hp]; exact hB0)
  have hlow := hr.low
  rw [hp] at hlow
  have HW := hide hW
  clear hW
  obtain ⟨S, hS⟩ : ∃ S : Nat → Prop, ∀ k, S k ↔ k < p + 2 := ⟨fun k => k < p + 2, fun _ => Iff.rfl⟩
  have HIt := legs_iter 4 (by omega) H f n d A c l hl hl1 hc hok H0 H1 h1 h2 n0 n1 d1 S (fun hx b off e => (hS _).2 (by have := hlow hx b off e; omega)) W hrW (fun k hk => by rw [hsz]; have := (hS k).1 hk; omega)
  have s0 := hS0.cell 0; have s1 := hS0.cell 1; have s2 := hS0.cell 2; have s3 := hS0.cell 3; have s4 := hS0.cell 4; simp only [List.getElem?_cons_zero, List.getElem?_cons_succ] at s0 s1 s2 s3 s4
  refine calls_marks 5 Try.func148 rfl ?_
  simp only [Try.ntmps148, List.size_toArray, List.length_cons, List.length_nil, Nat.reduceAdd, Nat.reduceSub, Array.replicate_succ, Array.replicate_zero, List.push_toArray, List.append_toArray, List.nil_append, List.cons_append]
  go_upto_region 2 with fail
  rw [HW.out]
  go_wp2
  refine wpIn_wide.1 (range_lawB4 (n := 5) (α := G) (m := 1) rfl Try.call108 HIt (fun k hk => by rw [hsz]; have := (hS k).1 hk; omega) (fun x args W h => by rw [show args = _ from h]; rfl)
    (fun pre W' => Blk W' (p + 1 + 1) 55 [.int .i64 (sumQ pre).1, .int .i64 (sumQ pre).2] ∧ Keep S W W')
    ?hI ?hI' ?hI4 ⟨hM0, Keep.refl _ _⟩ (fun x a₁ W' => ∃ bb : Nat, a₁ = { tmps := #[.agg #[.int .i64 H, .slice A l.length c, .int .i64 f, .int .i64 n, .int .i64 d], .pointer (some ⟨p, 0, none⟩), .pointer (some ⟨p + 1, 0, none⟩), .pointer (some ⟨p + 1 + 1, 0, none⟩), .pointer (some ⟨bb, 0, none⟩), .agg #[.int .i64 H, .slice A l.length c, .int .i64 f, .int .i64 n, .int .i64 d], .func (.func 108) #[.agg #[.int .i64 H, .slice A l.length c, .int .i64 f, .int .i64 n, .int .i64 d]] #[], .agg #[.int .i64 x.1, .int .i64 x.2], undef, undef, undef, undef, undef, undef, undef, undef, undef, undef, undef, undef, undef], defers := [] } ∧ p + 3 ≤ bb ∧ Blk W' bb 55 [.int .i64 x.1, .int .i64 x.2]) ?hZ ?assign ?body ?done)
  case hI =>
    rintro pre W1 W2 ⟨h3, h4⟩ hb
    exact ⟨h3.bel hb, h4.trans (Keep.of_below hb fun j hj => by have h5 := h4.size; have := (hS j).1 hj; omega)⟩
  case hI' =>
    rintro pre W1 l' o o' ⟨h3, h4⟩ hB hl' ho
    exact ⟨(World.putObj_heap_other (by omega)).trans h3, h4.trans (Keep.putObj _ _ _ fun hj => by have := (hS l').1 hj; omega)⟩
  case hI4 =>
    rintro pre W1 W2 ⟨h3, h4⟩ ha
    exact ⟨(ha.block (p + 2) (by omega)).trans h3, h4.trans ⟨ha.os, ha.tape, ha.output, Nat.le_of_eq ha.size.symm, fun k hk => ha.block k (by have := (hS k).1 hk; omega)⟩⟩
  case hZ =>
    rintro j a W1 l' o o' ⟨bb, e1, e2, e3⟩ hl' ho hc
    exact ⟨bb, e1, e2, (World.putObj_heap_other (fun e => by subst e; rw [show W1.heap[bb]? = _ from e3] at ho; cases ho; cases hc)).trans e3⟩
  case assign =>
    rintro l' x args W1 K rfl hge hK
    gi_wp2
    exact hK _ _ ((Below.refl _ _).alloc (Nat.le_refl _) _) ⟨W1.heap.size, rfl, by omega, Blk.new W1 _ [_, _]⟩
  case body =>
    rintro l' pre x rest a₁ W1 hxs ⟨hM, hkp⟩ ⟨bb, rfl, hbb, hBB⟩ hge
    have hxo := hLok x (by rw [hxs]; exact List.mem_append_right _ (List.mem_cons_self ..))
    have hpl2 : pre.length ≤ 1001 := by have := congrArg List.length hxs; rw [List.length_append, hLlen] at this; omega
    have hsb := sumQ_bd _ pre rfl (fun y hy => hLok y (by rw [hxs]; exact List.mem_append_left _ hy))
    have hsn := hide (sumQ_snoc pre x)
    obtain ⟨x1, x2⟩ := x
    unfold LegOk at hxo
    dsimp only at hxo hBB hsn ⊢
    generalize hsq : sumQ pre = sq at hM hsb hsn
    obtain ⟨s1, s2⟩ := sq
    dsimp only at hM hsb hsn
    have hrg : 0 ≤ s1 ∧ s1 ≤ 2149631132649 ∧ 0 ≤ s2 ∧ s2 ≤ 2149631132649 := by omega
    clear hsb hxs hsq HIt hLok
    obtain ⟨m0, m1, mf0, mf1⟩ := blk_two hM
    have b0 := hBB.cell 0; have b1 := hBB.cell 1; simp only [List.getElem?_cons_zero, List.getElem?_cons_succ] at b0 b1
    have hzM := hM.lt
    gi_wp2
    have hnS : ¬ S (p + 1 + 1) := fun hk => by have := (hS _).1 hk; omega
    have hks : Keep S W1 ((W1.setCell ⟨p + 1 + 1, 0, none⟩ (.int .i64 (s1 + x1))).setCell ⟨p + 1 + 1, 1, none⟩ (.int .i64 (s2 + x2))) := (Keep.setCell _ ⟨p + 1 + 1, 0, none⟩ _ hnS).trans (Keep.setCell _ ⟨p + 1 + 1, 1, none⟩ _ hnS)
    refine ⟨(KeepsOthers.setCell _ _ _).trans (KeepsOthers.setCell _ _ _), hks, (KeepI.setCell _ _ _ (by show ¬ (W.heap.size + 2 ≤ p + 1 + 1 ∧ _); omega)).trans (KeepI.setCell _ _ _ (by show ¬ (W.heap.size + 2 ≤ p + 1 + 1 ∧ _); omega)), ?_, hkp.trans hks⟩
    rw [hsn.out]
    exact (hM.set_ 0 _).set_ 1 _
  case done =>
    rintro D W1 hD ⟨hM, hkp⟩ hK
    have hR1 : Blk W1 (p + 1) 55 [.int .i64 0, .int .i64 0] := (hkp.block (p + 1) ((hS _).2 (by omega))).trans hR0
    rw [show sumQ (legsL H f n d l) = halfQ H f n d l from rfl] at hM
    obtain ⟨z, hz⟩ : ∃ z, halfQ H f n d l = z := ⟨_, rfl⟩
    rw [hz] at hM
    obtain ⟨a, b⟩ := z
    dsimp only at hM
    have HZ := hide hz
    clear HIt hLok hz
    obtain ⟨m0, m1, mf0, mf1⟩ := blk_two hM
    obtain ⟨r0, r1, rf0, rf1⟩ := blk_two hR1
    have hzR := hR1.lt
    have hzM := hM.lt
    go_wp2
    obtain ⟨W2, hW2⟩ : ∃ W2, (W1.setCell ⟨p + 1, 0, none⟩ (.int .i64 a)).setCell ⟨p + 1, 1, none⟩ (.int .i64 b) = W2 := ⟨_, rfl⟩
    rw [hW2]
    have hK2 : W2.heap[D]? = some (.deferred (some [])) := by rw [← hW2]; exact ((KeepsOthers.setCell _ _ _).trans (KeepsOthers.setCell _ _ _)).same D _ hK rfl
    have hR2 : Blk W2 (p + 1) 55 [.int .i64 a, .int .i64 b] := by rw [← hW2]; exact (hR1.set_ 0 _).set_ 1 _
    have hB2 : Below p W1 W2 := by rw [← hW2]; exact ((Below.refl _ _).setCell (by show p ≤ p + 1; omega) _).setCell (by show p ≤ p + 1; omega) _
    clear hW2 m0 m1 mf0 mf1 r0 r1 rf0 rf1 hR1 hM
    obtain ⟨W3, hW3⟩ : ∃ W3, W2.putObj D (.deferred none) = W3 := ⟨_, rfl⟩
    refine ⟨by simp, .inl ⟨_, _, rfl, run_takeDeferred hK2, ?_⟩⟩
    rw [hW3]
    have hR3 : Blk W3 (p + 1) 55 [.int .i64 a, .int .i64 b] := by rw [← hW3]; exact (World.putObj_heap_other (by omega)).trans hR2
    have hz3 : W2.heap.size ≤ W3.heap.size := by rw [← hW3]; simp
    have hb3 : Below p W2 W3 := by
      rw [← hW3]
      exact ⟨rfl, rfl, rfl, by simp, fun k hk => World.putObj_heap_other (by omega)⟩
    have hkw : Below p W W1 := ⟨hkp.os, hkp.tape, hkp.output, hkp.size, fun k hk => hkp.block k ((hS _).2 (by omega))⟩
    clear hW3
    have g0 := hR3.cell 0; have g1 := hR3.cell 1; simp only [List.getElem?_cons_zero, List.getElem?_cons_succ] at g0 g1
    exact ⟨.agg #[.int .i64 a, .int .i64 b], by simp [results, Try.results148, go_sem, g0, g1]; try rfl, by rw [HZ.out], by first | exact ((hB0.trans hkw).trans hB2).trans hb3 | (rw [hp]; exact ((hB0.trans hkw).trans hB2).trans hb3)⟩
end Go.Proofs.Ytkcjiejdjdcbeaa

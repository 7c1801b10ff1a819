/- Contracts: runs written, differences. -/
import Derived.Test.YtnjdkdmfeonabaaE5
set_option linter.unusedSimpArgs false
set_option linter.unusedVariables false
set_option linter.unusedSimpArgs false
set_option linter.unusedVariables false
namespace Go.Proofs.Ytnjdkdmfeonabaa
open Go.RowKit
set_option maxRecDepth 100000
attribute [local go_sem] Oper.semAt_some

/-- What a box holds: a slice of its own with these numbers. -/
structure HeldI (n₀ p : Nat) (xs : List Int) (W : World) : Prop where
  box : ∃ v, Boxed W p 36 v ∧ W.ownsRow n₀ 3 1 v xs.length (ints xs)
theorem HeldI.stable {n₀ p : Nat} {xs : List Int} {W W' : World} (h : HeldI n₀ p xs W) (hb : Below W.heap.size W W') : HeldI n₀ p xs W' := by
  obtain ⟨v, h1, h2⟩ := h
  exact ⟨v, boxed_bel h1 hb, ownsRow_bel h2 hb⟩
theorem ownsRow_putObj {W : World} {base : Nat} {e : TypeId} {size n : Nat} {v : Value} {xs : List Value} (h : W.ownsRow base e size v n xs) {l : Nat} {o : Obj} (o' : Obj) (hl : W.heap[l]? = some o) (ho : o.isCells = false) : (W.putObj l o').ownsRow base e size v n xs := by
  refine h.kept (row := some l) ⟨rfl, rfl, rfl, by simp, fun k _ hne => World.putObj_heap_other fun e => hne (by rw [e])⟩ (.inr ?_)
  intro he
  rcases h.2 with ⟨rfl, _⟩ | ⟨g, cap, cur, rfl, _, hg, _⟩
  · simp [Value.ownBlock] at he
  · have : g = l := by simpa [Value.ownBlock] using he
    subst this
    rw [hg] at hl
    cases hl
    cases ho
theorem HeldI.deaf {n₀ p : Nat} {xs : List Int} {W : World} (h : HeldI n₀ p xs W) {l : Nat} {o : Obj} (o' : Obj) (hl : W.heap[l]? = some o) (ho : o.isCells = false) : HeldI n₀ p xs (W.putObj l o') := by
  obtain ⟨v, h1, h2⟩ := h
  exact ⟨v, boxed_putObj h1 o' hl ho, ownsRow_putObj h2 o' hl ho⟩

set_option maxHeartbeats 1000000 in
theorem writtenRuns_c (l : List Int) (A : Option Addr) (c : Nat) (w : World) (hr : Rd w A (ints l)) (hl : l.length ≤ 1000) :
    Calls Try.prog 22 #[.slice A l.length c] w fun r w' => (∃ A' c', r = .returned (.slice A' (flat (runsL l)).length c') ∧ RdT w' 3 A' (ints (flat (runsL l))) ∧ (flat (runsL l)).length ≤ c') ∧ Below w.heap.size w w' := by
  obtain ⟨i0, hi, iz0, iz1, iz2⟩ := info_parts Try.infoN
  refine calls_marks 5 Try.func22 rfl ?_
  simp only [Try.ntmps22, List.size_toArray, List.length_cons, List.length_nil, Nat.reduceAdd, Nat.reduceSub, Array.replicate_succ, Array.replicate_zero, List.push_toArray, List.append_toArray, List.nil_append, List.cons_append]
  go_wp2_with (first | (go_at_call 36; refine (runs_c _ _ _ _).mono ?_; rintro e w2 ⟨rfl, rfl⟩))
  obtain ⟨p, hp⟩ : ∃ p, w.heap.size = p := ⟨_, rfl⟩
  obtain ⟨W2, hW2⟩ : ∃ W2, (w.alloc (.cells #[.slice none 0 0] 36)).alloc (.cells #[.slice A l.length c] 36) = W2 := ⟨_, rfl⟩
  have hsz2 : W2.heap.size = p + 2 := by rw [← hW2, ← hp]; simp
  have hb2 : Below p w W2 := by rw [← hW2, ← hp]; exact ((Below.refl _ w).alloc (Nat.le_refl _) _).alloc (by simp) _
  have hbox : Boxed W2 p 36 (.slice none 0 0) := by rw [← hW2, ← hp]; exact (Boxed.new w _ _).alloc _
  have hcap : W2.cell? ⟨p + 1, 0, none⟩ = some (.slice A l.length c) := by rw [← hW2, ← hp]; simp
  rw [hW2]
  simp only [World.size_alloc, hp]
  have hr2 : Rd W2 A (ints l) := hr.bel (by rw [hp]; exact hb2)
  have hB2 : Below p w W2 := hb2
  have hlow := hr.low
  rw [hp] at hlow
  clear hW2
  have HRL := runsL_length l
  obtain ⟨S, hS⟩ : ∃ S : Nat → Prop, ∀ k, S k ↔ k < p + 2 ∧ k ≠ p := ⟨fun k => k < p + 2 ∧ k ≠ p, fun _ => Iff.rfl⟩
  refine wpIn_wide.1 (range_law (n := 5) (α := G) rfl Try.call45 (runs_iter 4 (p + 1) (by omega) l A c hl S ((hS _).2 ⟨by omega, by omega⟩) (fun hx b off e => (hS _).2 (by have := hlow hx b off e; omega)) W2 hcap hr2)
    (fun k hk => by rw [hsz2]; exact ((hS k).1 hk).1) (fun x args W h => by rw [show args = _ from h]; rfl)
    (fun x args W l o o' h _ _ _ => h)
    (fun pre W => HeldI (p + 2) p (flat pre) W ∧ Keep S W2 W)
    (fun pre W W' ⟨h1, h2⟩ hb => ⟨h1.stable hb, h2.trans (Keep.of_below hb fun k hk => by have h3 := h2.size; have := ((hS k).1 hk).1; omega)⟩)
    (fun pre W l o o' ⟨h1, h2⟩ hB hl ho => ⟨h1.deaf o' hl ho, h2.trans (Keep.putObj _ _ _ fun hk => by have := ((hS l).1 hk).1; omega)⟩)
    ⟨⟨_, hbox, World.ownsRow_nil _ _ _ _⟩, Keep.refl _ _⟩
    (fun args => { tmps := #[.slice A l.length c, undef, .slice none 0 0, .pointer (some ⟨p, 0, none⟩), args.getD 0 undef, args.getD 1 undef, .slice A l.length c, .func (.func 45) #[] #[.pointer (some ⟨p + 1, 0, none⟩)], args.getD 0 undef, args.getD 1 undef, undef, undef, undef, undef, undef, undef], defers := [] })
    ?assign ?body ?done)
  case assign =>
    rintro l' x args W' K rfl hK
    gi_wp2
    exact hK
  case body =>
    rintro l' pre ⟨b, n⟩ rest args W' hx ⟨⟨v, hbx, hown⟩, hkp⟩ rfl hge
    have hprelen : pre.length ≤ 1000 := by
      have h1 := congrArg List.length hx
      simp at h1
      omega
    have hbc := hbx.cell
    have hbf := hbx.frozen
    have hpW : p < W'.heap.size := hbx.lt
    have hfl : (flat pre).length ≤ 2000 := by rw [flat_length]; omega
    gi_wp2_with (first
      | (gi_at_builtin; refine wpListIn_append_own _ rfl _ _ 36 rfl (p + 2) 3 i0 _ 1 8 Try.underlying36 hi iz0 iz1 iz2 rfl (by decide) _ _ _ rfl (hown.alloc _) ⟨W'.heap.size, 0, none⟩ 2 2 [.int .i64 b, .int .i64 n] rfl rfl (World.news_of_block (heap_alloc_new W' _)) (by simp [Value.oneCell']) (by simp only [maxLen]; omega) (by omega) (by simp; omega) ?_; intro v' w4 hown' hgrow _; obtain ⟨g', cap', rfl⟩ := ownsRow_slice hown'; obtain ⟨hv1, hv2, hr2, hk2, hkS, hkT⟩ := box_append (S := S) hbx (by decide) hown hown' hgrow (fun k hk => (hS k).1 hk) (by omega); have hc1 := hv1.cell; have hf1 := hv1.frozen))
    refine ⟨hk2, hkS, ⟨_, hv2, ?_⟩, hkp.trans hkS⟩
    rw [flat_snoc, List.length_append, ints_append]
    exact hr2
  case done =>
    rintro D W' hD ⟨⟨v, hbx, hown⟩, hkp⟩ hK
    have hbc := hbx.cell
    obtain ⟨A', c', rfl⟩ := ownsRow_slice hown
    go_wp2
    refine ⟨by simp, .inl ⟨_, _, rfl, run_takeDeferred hK, ?_⟩⟩
    refine ⟨_, results_tmp rfl _ _ _, ⟨A', c', rfl, (RdT.of_own hown).putObj _ hK rfl, own_capI hown⟩, ?_⟩
    rw [hp]
    refine hB2.trans ⟨hkp.os, hkp.tape, hkp.output, by simpa using hkp.size, fun k hk => ?_⟩
    rw [World.putObj_heap_other (by omega)]
    exact hkp.block k ((hS k).2 ⟨by omega, by omega⟩)

/-- The differences of numbers, the one before them given. -/
def diffs (before : Int) : List Int → List Int
  | [] => []
  | x :: l => (x - before) :: diffs x l
@[simp] theorem diffs_length (b : Int) (l : List Int) : (diffs b l).length = l.length := by
  induction l generalizing b with
  | nil => rfl
  | cons x l ih => simp [diffs, ih]
theorem diffs_take (b : Int) (l : List Int) (k : Nat) : (diffs b l).take k = diffs b (l.take k) := by
  induction l generalizing b k with
  | nil => simp [diffs]
  | cons x l ih => cases k with
    | zero => simp [diffs]
    | succ k => simp [diffs, ih]
theorem diffs_snoc (b : Int) (l : List Int) (x : Int) : diffs b (l ++ [x]) = diffs b l ++ [x - l.getLastD b] := by
  induction l generalizing b with
  | nil => simp [diffs]
  | cons y l ih => simp [diffs, ih, List.getLast?_cons]
/-- Numbers that are not too great. -/
def Within (m : Int) (l : List Int) : Prop := ∀ x ∈ l, -m ≤ x ∧ x ≤ m
theorem serE_zero {l : List Int} (h : serE l = 0) : l.length ≤ 200 ∧ Within 1000000000 l := by
  have h2 : slenE l.length = 0 ∧ (firstBadFrom (fun _ n => errIf (outB n (-1000000000) 1000000000) 2) 0 l).2 = 0 := by
    unfold serE at h
    simp only [firstE] at h
    by_cases h1 : slenE l.length = 0
    · rw [if_pos h1] at h
      refine ⟨h1, ?_⟩
      by_cases h3 : (firstBadFrom (fun _ n => errIf (outB n (-1000000000) 1000000000) 2) 0 l).2 = 0
      · exact h3
      · rw [if_neg h3] at h; exact absurd h h3
    · rw [if_neg h1] at h; exact absurd h h1
  obtain ⟨h1, h3⟩ := h2
  have h4 := errIf_zero (by decide) h1
  simp at h4
  refine ⟨by omega, fun x hx => ?_⟩
  obtain ⟨k, hk, rfl⟩ := List.getElem_of_mem hx
  have := errIf_zero (by decide) (firstBadFrom_snd h3 k hk)
  have := outB_false.1 this
  omega
theorem diffs_within {m b : Int} {l : List Int} (hb : -m ≤ b ∧ b ≤ m) (h : Within m l) : Within (2 * m) (diffs b l) := by
  induction l generalizing b with
  | nil => intro x hx; cases hx
  | cons y l ih =>
    intro x hx
    have hy := h y (by simp)
    rcases List.mem_cons.1 hx with rfl | hx
    · omega
    · exact ih hy (fun z hz => h z (by simp [hz])) x hx

set_option maxHeartbeats 1000000 in
theorem differencesOf_c (l : List Int) (A : Option Addr) (c : Nat) (w : World) (hr : Rd w A (ints l)) (hl : l.length ≤ 1000) (hw : Within 1000000000 l) :
    Calls Try.prog 23 #[.slice A l.length c] w fun r w' => (∃ A' c', r = .returned (.slice A' l.length c') ∧ Rd w' A' (ints (diffs 0 l))) ∧ Below w.heap.size w w' := by
  obtain ⟨i0, hi, iz0, iz1, iz2⟩ := info_parts Try.infoN
  have HW := hide hw
  clear hw
  go_enter Try.func23, Try.ntmps23
  go_wp2
  go_loopw [3, 4, 9] (fun v b x wr => ∃ k : Nat, ∃ y : Int, k ≤ l.length ∧ x = .int .i64 k ∧ b = .int .i64 y ∧ -1000000000 ≤ y ∧ y ≤ 1000000000 ∧ Hid (y = (l.take k).getLastD 0) ∧ Below w.heap.size w wr ∧ wr.ownsRow w.heap.size 3 1 v k (ints (diffs 0 (l.take k)))) (fun _ _ x _ => l.length - (intOf x).toNat)
  case atStart => exact ⟨0, 0, Nat.zero_le _, rfl, rfl, by omega, by omega, rfl, Below.refl _ _, by simpa [diffs] using World.ownsRow_nil _ _ _ _⟩
  case round =>
    obtain ⟨k, y, hk, rfl, rfl, hy0, hy1, hy, hbr, hown⟩ := hrel
    have hsz := hbr.size
    by_cases hlt : k < l.length
    · obtain ⟨b, off, rfl, hblt, x0⟩ := (hr.bel hbr).int_at hlt
      have hx := HW.out l[k] (List.getElem_mem hlt)
      have HN : Hid (diffs 0 (l.take (k + 1)) = diffs 0 (l.take k) ++ [l[k] - y] ∧ l[k] = (l.take (k + 1)).getLastD 0) := by
        show _ ∧ _
        rw [List.take_succ_eq_append_getElem hlt, diffs_snoc, hy.out]
        exact ⟨rfl, by rw [List.getLastD_concat]⟩
      generalize l[k] = x at x0 hx HN
      go_wp2_with (at_builtin; refine wpList_append_own _ rfl _ _ 36 rfl w.heap.size 3 i0 _ 1 8 Try.underlying36 hi iz0 iz1 iz2 rfl (by decide) _ _ _ rfl (hown.alloc _) ⟨wr.heap.size, 0, none⟩ 1 1 [.int .i64 (x - y)] rfl rfl (World.news_of_block (heap_alloc_new wr _)) (by simp [Value.oneCell']) (by unfold maxLen; omega) (by omega) (by simp; omega) ?_; intro v' w8 hown8 hg8 _)
      have hb8 : Below w.heap.size w w8 := (bel_alloc hbr hsz _).grown hg8 (by simp; omega) (fun j hj => by have := (hown.lt j hj).1; omega)
      go_roundw
      case rel => exact ⟨k + 1, x, by omega, by go_num, rfl, by omega, by omega, HN.out.2, hb8, by rw [HN.out.1, ints_append]; exact hown8⟩
      case measure => simp [intOf]; omega
    · obtain rfl : k = l.length := by omega
      obtain ⟨A', c', rfl⟩ := ownsRow_slice hown
      have hrw := Rd.of_own hown
      rw [List.take_of_length_le (Nat.le_refl _)] at hrw
      go_wp2
      go_ret
      exact ⟨⟨A', c', rfl, hrw⟩, hbr⟩
end Go.Proofs.Ytnjdkdmfeonabaa

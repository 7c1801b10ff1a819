/- Contracts: partners of a code (the walk). -/
import Derived.Test.YtmedjedmeggbpaaDoorW5
import Derived.Maps.AppendAt
namespace Go.Proofs.YtmedjedmeggbpaaDoor
open Go.RowKit
set_option maxRecDepth 100000
attribute [local go_sem] Oper.semAt_some

theorem Tryd.info22 : (Tryd.prog.info? 22).map (fun i => (i.zero, i.size, i.bytes)) = some (some (.slice none 0 0), 1, 24) := by kernel_rfl

theorem partners_c (l : List Int) (A : Option Addr) (c : Nat) (w : World) (hr : Rd w A (ints l)) (hl : l.length ≤ 1000) :
    Calls Tryd.prog 29 #[.slice A l.length c] w fun r w' =>
      ((partE l ≠ 0 ∧ r = .returned (.tuple #[.slice none 0 0, .int .i64 (partE l)])) ∨
        (partE l = 0 ∧ ∃ A' c' vs, r = .returned (.tuple #[.slice A' vs.length c', .int .i64 0]) ∧ Rd w' A' vs ∧ Lists w' vs (partL l (List.range (2 ^ l.length))))) ∧ Below w.heap.size w w' := by
  obtain ⟨i0, hi, iz0, iz1, iz2⟩ := info_parts Tryd.info22
  refine calls_marks 5 Tryd.func29 rfl ?_
  simp only [Tryd.ntmps29, List.size_toArray, List.length_cons, List.length_nil, Nat.reduceAdd, Nat.reduceSub, Array.replicate_succ, Array.replicate_zero, List.push_toArray, List.append_toArray, List.nil_append, List.cons_append]
  go_wp2
  have hS0 : (w.alloc (.cells #[.slice A l.length c] 22)).cell? ⟨w.heap.size, 0, none⟩ = some (.slice A l.length c) ∧ Below w.heap.size w (w.alloc (.cells #[.slice A l.length c] 22)) :=
    ⟨by simp, (Below.refl _ _).alloc (Nat.le_refl _) _⟩
  have hz0 : w.heap.size ≤ (w.alloc (.cells #[.slice A l.length c] 22)).drew.heap.size := by simp
  have HS := hide hS0
  clear hS0
  go_region_held3 (fun w' => w'.cell? ⟨w.heap.size, 0, none⟩ = some (.slice A l.length c) ∧ Below w.heap.size w w')
    (first | exact held_drew HS.out | exact held_bel (held_drew HS.out) hb1 hz0 | exact held_alloc (held_bel (held_drew HS.out) hb1 hz0) (Nat.le_trans hz0 hb1.size) _)
    (first
      | (go_at_call 22; refine (checkCode_c l A c _ ?_ hl).mono ?_; exact hr.bel (held_drew HS.out).2; rintro e w1 ⟨rfl, hb1⟩)
      | (go_at_call 93; refine (errorIf_c _ _ _).mono ?_; rintro e w' ⟨rfl, rfl⟩)
      | (go_at_call 92; refine (firstError_2 _ _ _).mono ?_; rintro e w' ⟨rfl, rfl⟩))
  have hF := held_alloc (held_bel (held_drew HS.out) hb1 hz0) (Nat.le_trans hz0 hb1.size) (.cells #[.int .i64 (codeE l), .int .i64 (errIf (decide ((10 : Int) < l.length)) 8)] 25)
  generalize hW : w1.alloc (.cells #[.int .i64 (codeE l), .int .i64 (errIf (decide ((10 : Int) < l.length)) 8)] 25) = W at hF ⊢
  rw [show firstE [codeE l, errIf (decide ((10 : Int) < l.length)) 8] = partE l from rfl]
  obtain ⟨hcell, hbel⟩ := hF
  have hsz : w.heap.size < W.heap.size := World.block_lt_of_cell? _ _ hcell
  clear hb1 HS hW
  by_cases he : partE l = 0
  · have e1 : (partE l != 0) = false := by simpa using he
    have HE := hide he
    clear he
    go_wp2_with (first | (go_at_call 101; refine (codesOf_c _ _).mono ?_; rintro e w2 ⟨rfl, rfl⟩))
    have hp := partE_zero HE.out
    have hl10 : l.length ≤ 10 := hp.2
    have hsm : Small l := small_of_code hp.1
    clear hp
    obtain ⟨p, hp⟩ : ∃ p, W.heap.size = p := ⟨_, rfl⟩
    obtain ⟨W2, hW2⟩ : ∃ W2, (W.alloc (.cells #[.slice none 0 0] 42)).alloc (.cells #[.int .i64 l.length] 3) = W2 := ⟨_, rfl⟩
    have hsz2 : W2.heap.size = p + 2 := by rw [← hW2, ← hp]; simp
    have hb2 : Below p W W2 := by rw [← hW2, ← hp]; exact ((Below.refl _ W).alloc (Nat.le_refl _) _).alloc (by simp) _
    have hbox : Boxed W2 p 42 (.slice none 0 0) := by
      rw [← hW2, ← hp]; exact (Boxed.new W _ _).alloc _
    have hlen2 : W2.cell? ⟨p + 1, 0, none⟩ = some (.int .i64 l.length) := by
      rw [← hW2, ← hp]
      simp
    rw [hW2, hp]
    have hwp : w.heap.size < p := by omega
    have hcell2 : W2.cell? ⟨w.heap.size, 0, none⟩ = some (.slice A l.length c) := (hb2.cell (p := ⟨w.heap.size, 0, none⟩) hwp).trans hcell
    have hbel2 : Below w.heap.size w W2 := hbel.trans (hb2.mono (by omega))
    have hr2 : Rd W2 A (ints l) := hr.bel hbel2
    clear hW2 hcell hbel hb2
    obtain ⟨S, hS⟩ : ∃ S : Nat → Prop, ∀ k, S k ↔ k < p + 2 ∧ k ≠ p := ⟨fun k => k < p + 2 ∧ k ≠ p, fun _ => Iff.rfl⟩
    refine wpIn_wide.1 (range_law (n := 5) (α := Nat) rfl Tryd.call139 (codes_iter 4 l.length (p + 1) (by omega) hl10 S ((hS _).2 ⟨by omega, by omega⟩) W2 hlen2)
      (fun k hk => by rw [hsz2]; exact ((hS k).1 hk).1) (fun x args W h => by obtain ⟨_, _, rfl, _⟩ := h; rfl)
      (fun x args W l o o' ⟨A, c, h1, h2⟩ _ hl ho => ⟨A, c, h1, h2.putObj o' hl ho⟩)
      (fun pre W => Held (p + 2) p (partL l pre) W ∧ Keep S W2 W)
      (fun pre W W' ⟨h1, h2⟩ hb => ⟨Held.stable _ _ _ _ _ h1 hb, h2.trans (Keep.of_below hb fun k hk => by have h3 := h2.size; have := ((hS k).1 hk).1; omega)⟩)
      (fun pre W l o o' ⟨h1, h2⟩ hB hl ho => ⟨Held.deaf _ _ _ _ _ _ _ _ h1 hB hl ho, h2.trans (Keep.putObj _ _ _ fun hk => by have := ((hS l).1 hk).1; omega)⟩)
      ⟨⟨_, [], hbox, World.ownsRow_nil _ _ _ _, trivial⟩, Keep.refl _ _⟩
      (fun args => { tmps := #[.slice A l.length c, .pointer (some ⟨w.heap.size, 0, none⟩), .slice none 0 0, .int .i64 0, .int .i64 (partE l), .pointer (some ⟨p, 0, none⟩), args.getD 0 undef, .slice A l.length c,
          .int .i64 (codeE l), .slice A l.length c, .int .i64 l.length, .bool (decide ((10 : Int) < l.length)), .int .i64 (errIf (decide ((10 : Int) < l.length)) 8), .slice (some ⟨w1.heap.size, 0, none⟩) 2 2, .int .i64 (partE l),
          .int .i64 (partE l), .bool false, undef, .slice A l.length c, .int .i64 l.length, .func (.func 139) #[] #[.pointer (some ⟨p + 1, 0, none⟩)], args.getD 0 undef, undef, undef, undef, undef, undef, undef, undef, undef, undef], defers := [] })
      ?assign ?body ?done)
    case assign =>
      rintro l' x args W' K ⟨A', c', rfl, _⟩ hK
      gi_wp2
      exact hK
    case body =>
      rintro l' pre b rest args W' hx ⟨⟨v, vs, hbx, hown, hls⟩, hkp⟩ ⟨A', c', rfl, hrd⟩ hge
      have hSw : ∀ k, k < p → S k := fun k hk => (hS k).2 ⟨by omega, by omega⟩
      have hcellW : W'.cell? ⟨w.heap.size, 0, none⟩ = some (.slice A l.length c) := (hkp.cell (p := ⟨w.heap.size, 0, none⟩) (hSw _ hwp)).trans hcell2
      have hbW : Below w.heap.size w W' := hbel2.trans ⟨hkp.os, hkp.tape, hkp.output, hkp.size, fun k hk => hkp.block k (hSw k (by omega))⟩
      have hrW : Rd W' A (ints l) := hr.bel hbW
      have HL : Hid (Calls Tryd.prog 102 #[.slice A l.length c, .slice A' l.length c'] W' fun r w' => r = .returned (.int .i64 (lobe l (codeL b l.length))) ∧ ∃ n, w' = W'.drewN n) := by
        have := lobeOf_c l (codeL b l.length) A A' c c' W' hrW hrd.1 hsm (small_codeL _ _) hl (by rw [codeL_length])
        rw [codeL_length] at this
        exact this
      have hg : ∀ v : Value, (#[v] : Array Value).getD 0 undef = v := fun _ => rfl
      simp only [hg]
      have hbc := hbx.cell
      have hbf := hbx.frozen
      have hpW : p < W'.heap.size := hbx.lt
      by_cases hz : lobe l (codeL b l.length) = 0
      · have e2 : (lobe l (codeL b l.length) == 0) = true := by simpa using hz
        have HP := hide (partL_snoc_yes l pre b hz)
        have hlenp := partL_length l pre
        have hprelen : pre.length ≤ 1024 := by
          have h1 := congrArg List.length hx
          have h2 : 2 ^ l.length ≤ 2 ^ 10 := Nat.pow_le_pow_right (by omega) hl10
          simp at h1
          omega
        clear hz
        gi_wp2_with (first
          | (refine ⟨trivial, ?_⟩; gi_at_call 102; refine (CallsIn.mono (CallsIn.inRound l' (callsIn_wide.2 HL.out)) ?_); rintro e w3 ⟨rfl, n3, rfl⟩)
          | (gi_at_builtin; refine wpListIn_append_own _ rfl _ _ 42 rfl (p + 2) 22 i0 _ 1 24 Tryd.underlying42 hi iz0 iz1 iz2 rfl (by decide) _ _ _ rfl (World.ownsRow.alloc (show (W'.drewN n3).ownsRow _ _ _ _ _ _ from hown) _) ⟨(W'.drewN n3).heap.size, 0, none⟩ 1 1 [.slice A' l.length c'] rfl rfl (cell_one_new _ _ _) (by simp [Value.oneCell']) (by simp only [maxLen]; omega) (by omega) (by simp; omega) ?_; intro v' w4 hown' hgrow _; obtain ⟨g', cap', rfl⟩ := ownsRow_succ hown'; obtain ⟨hv1, hv2, hr2, hk2, hkS, hkT⟩ := box_append (S := S) (show Boxed (W'.drewN n3) p _ _ from hbx) (by decide) (show (W'.drewN n3).ownsRow _ _ _ _ _ _ from hown) hown' hgrow (fun k hk => (hS k).1 hk) (by simp; omega); have hc1 := hv1.cell; have hf1 := hv1.frozen))
        refine ⟨⟨hk2.size, hk2.same⟩, ⟨hkS.os, hkS.tape, hkS.output, hkS.size, hkS.block⟩, ⟨_, vs ++ [.slice A' l.length c'], hv2, ?_, ?_⟩, hkp.trans ⟨hkS.os, hkS.tape, hkS.output, hkS.size, hkS.block⟩⟩
        · rw [HP.out, List.length_append]; exact hr2
        · rw [HP.out]
          have h1 := (hls.drewN n3).keep (w' := w4.setCell ⟨p, 0, none⟩ (.slice (some ⟨g', 0, none⟩) ((partL l pre).length + 1) cap')) fun A l h => RdT.keep (show RdT (W'.drewN n3) 3 A (ints l) from h) (hkT 3 (by decide) (by decide))
          have h2 := h1.snoc (c := c') (RdT.keep (show RdT (W'.drewN n3) 3 A' (ints (codeL b l.length)) from hrd) (hkT 3 (by decide) (by decide)))
          rw [codeL_length] at h2
          exact h2
      · have e2 : (lobe l (codeL b l.length) == 0) = false := by simpa using hz
        have HP := hide (partL_snoc_no l pre b hz)
        clear hz
        gi_wp2_with (first
          | (refine ⟨trivial, ?_⟩; gi_at_call 102; refine (CallsIn.mono (CallsIn.inRound l' (callsIn_wide.2 HL.out)) ?_); rintro e w3 ⟨rfl, n3, rfl⟩))
        refine ⟨⟨Nat.le_refl _, fun _ _ h _ => h⟩, ⟨rfl, rfl, rfl, Nat.le_refl _, fun _ _ => rfl⟩, ⟨v, vs, hbx, ?_, ?_⟩, ⟨hkp.os, hkp.tape, hkp.output, hkp.size, hkp.block⟩⟩
        · rw [HP.out]; exact hown
        · rw [HP.out]; exact hls.drewN n3
    case done =>
      rintro D W' hD ⟨⟨v, vs, hbx, hown, hls⟩, hkp⟩ hK
      have hbc := hbx.cell
      obtain ⟨A', c', rfl⟩ := ownsRow_slice hown
      go_wp2
      refine ⟨by simp, .inl ⟨_, _, rfl, run_takeDeferred hK, ?_⟩⟩
      refine ⟨_, results_tmp2 rfl _ _ _, .inr ⟨HE.out, A', c', vs, ?_, ?_, ?_⟩, ?_⟩
      · rw [hls.length]; rfl
      · have := Rd.of_own hown
        exact this.putObj _ hK rfl
      · exact hls.keep fun _ _ h => h.putObj _ hK rfl
      · refine hbel2.trans ⟨hkp.os, hkp.tape, hkp.output, by simpa using hkp.size, fun k hk => ?_⟩
        rw [World.putObj_heap_other (by omega)]
        exact hkp.block k ((hS k).2 ⟨by omega, by omega⟩)
  · have e1 : (partE l != 0) = true := by simpa using he
    have HE := hide he
    clear he
    go_wp2
    exact ⟨_, results_tmp2 rfl _ _ _, .inl ⟨HE.out, rfl⟩, hbel⟩
end Go.Proofs.YtmedjedmeggbpaaDoor

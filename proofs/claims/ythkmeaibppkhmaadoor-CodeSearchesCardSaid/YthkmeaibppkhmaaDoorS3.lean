/- Contracts: the first best code (the program's). -/
import Derived.Test.YthkmeaibppkhmaaDoorS2
import Derived.Test.YthkmeaibppkhmaaDoorS0
namespace Go.Proofs.YthkmeaibppkhmaaDoor
open Go.RowKit
set_option maxRecDepth 100000
attribute [local go_sem] Oper.semAt_some

/-- The first best of the codes of these numbers. -/
def bestFold (len : Nat) (bs : List Nat) : Option Nat × Int := bs.foldl (fun p b => if sideTo (codeL b len) (len - 1) < p.2 then (some b, sideTo (codeL b len) (len - 1)) else p) (none, (len : Int))
theorem bestFold_snoc (len : Nat) (bs : List Nat) (b : Nat) : bestFold len (bs ++ [b]) = if sideTo (codeL b len) (len - 1) < (bestFold len bs).2 then (some b, sideTo (codeL b len) (len - 1)) else bestFold len bs := by
  unfold bestFold; rw [List.foldl_append]; rfl
theorem bestFold_range (len n : Nat) : bestFold len (List.range n) = bestS len n := by
  induction n with
  | zero => rfl
  | succ n ih => rw [List.range_succ, bestFold_snoc, ih]; rfl

/-- The code of a number, or none: what the variable holds. -/
def BestV (n0 len : Nat) (o : Option Nat) (v : Value) (W : World) : Prop := (o = none ∧ v = .slice none 0 0) ∨ ∃ (b : Nat) (A : Option Addr) (c : Nat), o = some b ∧ v = .slice A len c ∧ RdT W 3 A (ints (codeL b len)) ∧ ∀ g off, A = some ⟨g, off, none⟩ → n0 ≤ g
/-- Both variables in their boxes p and p + 1. -/
def BestBox (len p : Nat) (q : Option Nat × Int) (W : World) : Prop := ∃ v, Boxed W p 22 v ∧ Boxed W (p + 1) 3 (.int .i64 q.2) ∧ BestV (p + 2) len q.1 v W

theorem BestV.keep {n0 len : Nat} {o : Option Nat} {v : Value} {W W' : World} (h : BestV n0 len o v W) (hk : ∀ A l, RdT W 3 A (ints l) → RdT W' 3 A (ints l)) : BestV n0 len o v W' := by
  rcases h with h | ⟨b, A, c, h1, h2, h3, h4⟩
  · exact .inl h
  · exact .inr ⟨b, A, c, h1, h2, hk _ _ h3, h4⟩
theorem BestBox.stable (len p : Nat) (q : Option Nat × Int) : Stable (BestBox len p q) := fun _ _ ⟨v, h1, h2, h3⟩ hb =>
  ⟨v, boxed_bel h1 hb, boxed_bel h2 hb, h3.keep fun _ _ h => h.bel hb⟩
theorem BestBox.deaf (len p B : Nat) (q : Option Nat × Int) : Deaf B (BestBox len p q) := fun _ _ _ o' ⟨v, h1, h2, h3⟩ _ hl ho =>
  ⟨v, boxed_putObj h1 o' hl ho, boxed_putObj h2 o' hl ho, h3.keep fun _ _ h => h.putObj o' hl ho⟩

theorem RdT.far_new {w : World} {t : TypeId} {A : Option Addr} {xs : List Value} {q : Nat} (h : RdT w t A xs) (hq : ∀ g off, A = some ⟨g, off, none⟩ → g ≠ q) (i : Nat) (u : Value) : RdT (w.setCell ⟨q, i, none⟩ u) t A xs := by
  refine ⟨fun hx => ?_, fun b off hA => ?_⟩
  · obtain ⟨b, off, rfl, hlt, hc⟩ := h.1 hx
    exact ⟨b, off, rfl, by simpa [World.setCell] using hlt, fun j v hv => (World.cell?_of_block (Below.heap_setCell w ⟨q, i, none⟩ u b (hq b off rfl))).trans (hc j v hv)⟩
  · obtain ⟨cs, fr, hb⟩ := h.2 b off hA
    exact ⟨cs, fr, (Below.heap_setCell w ⟨q, i, none⟩ u b (hq b off hA)).trans hb⟩

theorem firstBest_err (n : Int) (w : World) (h : outB n 1 10 = true) :
    Calls Tryd.prog 28 #[.int .i64 n] w fun r w' => r = .returned (.tuple #[.slice none 0 0, .int .i64 0, .int .i64 2]) ∧ Below w.heap.size w w' := by
  have HO := hide (fun W => outside_c n 1 10 W)
  rw [h] at HO
  clear h
  refine calls_marks 5 Tryd.func28 rfl ?_
  simp only [Tryd.ntmps28, List.size_toArray, List.length_cons, List.length_nil, Nat.reduceAdd, Nat.reduceSub, Array.replicate_succ, Array.replicate_zero, List.push_toArray, List.append_toArray, List.nil_append, List.cons_append]
  go_wp2_with (first | (go_at_call 94; refine (HO.out _).mono ?_; rintro e w1 ⟨rfl, rfl⟩))
  exact ⟨_, results_tmp3 rfl _ _ _, rfl, Below.refl _ _⟩

theorem firstBest_ok (len : Nat) (h1 : 1 ≤ len) (hl : len ≤ 10) (w : World) :
    Calls Tryd.prog 28 #[.int .i64 len] w fun r w' => (∃ (b : Nat) (s : Int) (A : Option Addr) (c : Nat), bestS len (2 ^ len) = (some b, s) ∧ r = .returned (.tuple #[.slice A len c, .int .i64 s, .int .i64 0]) ∧ RdT w' 3 A (ints (codeL b len))) ∧ Below w.heap.size w w' := by
  have HO := hide (fun W => outside_c (len : Int) 1 10 W)
  rw [show outB (len : Int) 1 10 = false from outB_false.2 ⟨by omega, by omega⟩] at HO
  have HSL := hide (fun (k : Nat) (A : Option Addr) (c : Nat) W (h : Rd W A (ints (codeL k len))) => sidelobe_c (codeL k len) A c W h (small_codeL k len) (by rw [codeL_length]; omega) (by rw [codeL_length]; omega))
  simp only [codeL_length] at HSL
  refine calls_marks 5 Tryd.func28 rfl ?_
  simp only [Tryd.ntmps28, List.size_toArray, List.length_cons, List.length_nil, Nat.reduceAdd, Nat.reduceSub, Array.replicate_succ, Array.replicate_zero, List.push_toArray, List.append_toArray, List.nil_append, List.cons_append]
  go_wp2_with (first | (go_at_call 94; refine (HO.out _).mono ?_; rintro e w1 ⟨rfl, rfl⟩) | (go_at_call 101; refine (codesOf_c _ _).mono ?_; rintro e w2 ⟨rfl, rfl⟩))
  obtain ⟨p, hp⟩ : ∃ p, w.heap.size = p := ⟨_, rfl⟩
  obtain ⟨W2, hW2⟩ : ∃ W2, ((w.alloc (.cells #[.slice none 0 0] 22)).alloc (.cells #[.int .i64 len] 3)).alloc (.cells #[.int .i64 len] 3) = W2 := ⟨_, rfl⟩
  have hsz2 : W2.heap.size = p + 3 := by rw [← hW2, ← hp]; simp
  have hb2 : Below p w W2 := by rw [← hW2, ← hp]; exact (((Below.refl _ w).alloc (Nat.le_refl _) _).alloc (by simp) _).alloc (by simp; omega) _
  have hbox : Boxed W2 p 22 (.slice none 0 0) := by rw [← hW2, ← hp]; exact ((Boxed.new w _ _).alloc _).alloc _
  have hbox2 : Boxed W2 (p + 1) 3 (.int .i64 len) := by
    rw [← hW2, ← hp]
    have := (Boxed.new (w.alloc (.cells #[.slice none 0 0] 22)) 3 (.int .i64 (len : Int))).alloc (.cells #[.int .i64 (len : Int)] 3)
    rw [show (w.alloc (.cells #[.slice none 0 0] 22)).heap.size = w.heap.size + 1 from World.size_alloc _ _] at this
    exact this
  have hlen2 : W2.cell? ⟨p + 1 + 1, 0, none⟩ = some (.int .i64 len) := by
    have h := (Boxed.new ((w.alloc (.cells #[.slice none 0 0] 22)).alloc (.cells #[.int .i64 (len : Int)] 3)) 3 (.int .i64 (len : Int))).cell
    rw [World.size_alloc, World.size_alloc] at h
    rw [← hW2, ← hp]
    exact h
  rw [hW2, hp]
  clear hW2
  obtain ⟨S, hS⟩ : ∃ S : Nat → Prop, ∀ k, S k ↔ k < p + 3 ∧ k ≠ p ∧ k ≠ p + 1 := ⟨fun k => k < p + 3 ∧ k ≠ p ∧ k ≠ p + 1, fun _ => Iff.rfl⟩
  refine wpIn_wide.1 (range_law (n := 5) (α := Nat) rfl Tryd.call139 (codes_iterN 4 len (p + 1 + 1) (p + 3) (by omega) hl S ((hS _).2 ⟨by omega, by omega, by omega⟩) W2 (by omega) hlen2)
    (fun k hk => by rw [hsz2]; exact ((hS k).1 hk).1) (fun x args W h => by obtain ⟨_, _, rfl, _⟩ := h; rfl)
    (fun x args W l o o' ⟨A, c, h1, h2, h3⟩ _ hl ho => ⟨A, c, h1, h2.putObj o' hl ho, h3⟩)
    (fun pre W => BestBox len p (bestFold len pre) W ∧ Keep S W2 W)
    (fun pre W W' ⟨h1, h2⟩ hb => ⟨BestBox.stable _ _ _ _ _ h1 hb, h2.trans (Keep.of_below hb fun k hk => by have h3 := h2.size; have := ((hS k).1 hk).1; omega)⟩)
    (fun pre W l o o' ⟨h1, h2⟩ hB hl ho => ⟨BestBox.deaf _ _ _ _ _ _ _ _ h1 hB hl ho, h2.trans (Keep.putObj _ _ _ fun hk => by have := ((hS l).1 hk).1; omega)⟩)
    ⟨⟨_, hbox, hbox2, .inl ⟨rfl, rfl⟩⟩, Keep.refl _ _⟩
    (fun args => { tmps := #[.int .i64 len, undef, .slice none 0 0, .int .i64 0, .int .i64 0, .pointer (some ⟨p, 0, none⟩), .pointer (some ⟨p + 1, 0, none⟩), args.getD 0 undef, undef, .int .i64 len, .bool false, .int .i64 len, .int .i64 len,
        .func (.func 139) #[] #[.pointer (some ⟨p + 1 + 1, 0, none⟩)], args.getD 0 undef, undef, undef, undef, undef, undef, undef, undef, undef, undef], defers := [] })
    ?assign ?body ?done)
  case assign =>
    rintro l' x args W' K ⟨A', c', rfl, _⟩ hK
    gi_wp2
    exact hK
  case body =>
    rintro l' pre b rest args W' hx ⟨⟨v, hbx, hby, hbv⟩, hkp⟩ ⟨A', c', rfl, hrd, hnA⟩ hge
    have hg : ∀ v : Value, (#[v] : Array Value).getD 0 undef = v := fun _ => rfl
    simp only [hg]
    have HL := hide (HSL.out b A' c' W' hrd.1)
    have HP := hide (bestFold_snoc len pre b)
    have hpW : p < W'.heap.size := hbx.lt
    have hpW1 : p + 1 < W'.heap.size := hby.lt
    have hSp : ¬ S p := fun h => ((hS p).1 h).2.1 rfl
    have hSp1 : ¬ S (p + 1) := fun h => ((hS (p + 1)).1 h).2.2 rfl
    have hSlt : ∀ k, S k → k < W'.heap.size := fun k hk => by have h3 := hkp.size; have := ((hS k).1 hk).1; omega
    clear HSL
    generalize sideTo (codeL b len) (len - 1) = s' at HL HP
    have hbw : Below w.heap.size w W' := by
      have h1 : Below p W2 W' := ⟨hkp.os, hkp.tape, hkp.output, hkp.size, fun k hk => hkp.block k ((hS k).2 ⟨by omega, by omega, by omega⟩)⟩
      rw [hp]; exact hb2.trans h1
    obtain ⟨q, hq⟩ : ∃ q, bestFold len pre = q := ⟨_, rfl⟩
    rw [hq] at HP hby hbv
    clear hq
    obtain ⟨o, s⟩ := q
    dsimp only at HP hby hbv
    have hcy := hby.cell
    by_cases hss : s' < s
    · have HP2 : Hid (bestFold len (pre ++ [b]) = (some b, s')) := by show _ = _; rw [HP.out, if_pos hss]
      clear HP
      gi_wp2_with (first
        | (refine ⟨trivial, ?_⟩; gi_at_call 96; refine (CallsIn.mono (CallsIn.inRound l' (callsIn_wide.2 HL.out)) ?_); rintro e w3 ⟨rfl, hb3⟩; have hbx3 := boxed_bel hbx hb3; have hby3 := boxed_bel hby hb3; have hd3 := hby3.cell; have he3 := hbx3.cell; have hf3 := hby3.frozen; have hg3 := hbx3.frozen))
      have hx4 : Blk w3 p 22 [v] := hbx3
      have hy4 : Blk w3 (p + 1) 3 [.int .i64 s] := hby3
      have hx5 := (hx4.set_ 0 (.slice A' len c')).far (p := ⟨p + 1, 0, none⟩) (by show p ≠ p + 1; omega) (.int .i64 s')
      have hy5 := (hy4.far (p := ⟨p, 0, none⟩) (by show p + 1 ≠ p; omega) (.slice A' len c')).set_ 0 (.int .i64 s')
      have hk5 : Keep S W' ((w3.setCell ⟨p, 0, none⟩ (.slice A' len c')).setCell ⟨p + 1, 0, none⟩ (.int .i64 s')) := ((Keep.of_below hb3 hSlt).trans (Keep.setCell _ ⟨p, 0, none⟩ _ hSp)).trans (Keep.setCell _ ⟨p + 1, 0, none⟩ _ hSp1)
      refine ⟨((others_of_below hb3).trans (KeepsOthers.setCell _ _ _)).trans (KeepsOthers.setCell _ _ _), hk5, ⟨_, hx5, by rw [HP2.out]; exact hy5, ?_⟩, hkp.trans hk5⟩
      rw [HP2.out]
      refine .inr ⟨b, A', c', rfl, rfl, RdT.far_new ((hrd.bel hb3).set hx4 (by decide) 0 _) (fun g off h => by have := hnA g off h; show g ≠ p + 1; omega) 0 _, fun g off h => by have := hnA g off h; omega⟩
    · have HP2 : Hid (bestFold len (pre ++ [b]) = (o, s)) := by show _ = _; rw [HP.out, if_neg hss]
      clear HP
      gi_wp2_with (first
        | (refine ⟨trivial, ?_⟩; gi_at_call 96; refine (CallsIn.mono (CallsIn.inRound l' (callsIn_wide.2 HL.out)) ?_); rintro e w3 ⟨rfl, hb3⟩; have hbx3 := boxed_bel hbx hb3; have hby3 := boxed_bel hby hb3; have hd3 := hby3.cell))
      have hk5 : Keep S W' w3 := Keep.of_below hb3 hSlt
      refine ⟨others_of_below hb3, hk5, ⟨_, hbx3, by rw [HP2.out]; exact hby3, ?_⟩, hkp.trans hk5⟩
      rw [HP2.out]
      exact hbv.keep fun _ _ h => h.bel hb3
  case done =>
    rintro D W' hD ⟨⟨v, hbx, hby, hbv⟩, hkp⟩ hK
    have hbc := hbx.cell
    have hbd := hby.cell
    rw [bestFold_range] at hbd hbv
    obtain ⟨b, s, hbs⟩ := bestS_some h1 (2 ^ len) Nat.one_le_two_pow
    rw [hbs] at hbd hbv
    dsimp only at hbd hbv
    have HBS := hide hbs
    clear hbs
    rcases hbv with ⟨h, _⟩ | ⟨b', A, c, h, rfl, hA, _⟩
    · cases h
    · injection h with h
      subst h
      go_wp2
      go_quiet (fail)
      go_wp2

      refine ⟨by simp, .inl ⟨_, _, rfl, run_takeDeferred hK, ?_⟩⟩
      refine ⟨_, results_tmp3 rfl _ _ _, ⟨b, s, A, c, HBS.out, rfl, ?_⟩, ?_⟩
      · exact hA.putObj _ hK rfl
      · rw [hp]
        refine hb2.trans ⟨hkp.os, hkp.tape, hkp.output, by simpa using hkp.size, fun k hk => ?_⟩
        rw [World.putObj_heap_other (by omega)]
        exact hkp.block k ((hS k).2 ⟨by omega, by omega, by omega⟩)
end Go.Proofs.YthkmeaibppkhmaaDoor

/- Contracts: whole numbers compared, profiles compared, slabs that join, squares beside a slab, rising profiles. -/
import Derived.Test.YtgnhkjfdicdcmaaG3
import Derived.Test.YtgnhkjfdicdcmaaFJ
namespace Go.Proofs.Ytgnhkjfdicdcmaa
open Go.RowKit
set_option maxRecDepth 100000



theorem own_cap {w : World} {base : Nat} {e : TypeId} {size n m c : Nat} {A : Option Addr} {xs : List Value} (h : w.ownsRow base e size (.slice A m c) n xs) : n ≤ c := by
  rcases h.2 with ⟨h', h0⟩ | ⟨g, cap, cur, h', _, _, hnc, _⟩
  · omega
  · cases h'
    exact hnc
set_option maxHeartbeats 1000000 in
theorem copyCap_c (base : Int) (A : Option Addr) (c : Nat) (l : List G) (w : World) (hr : Rd w A (gs l)) (hl : l.length ≤ 1000) :
    Calls Try.prog 18 #[.agg #[.int .i64 base, .slice A l.length c]] w fun r w' => (∃ A' c', r = .returned (.agg #[.int .i64 base, .slice A' l.length c']) ∧ Rd w' A' (gs l) ∧ l.length ≤ c') ∧ Below w.heap.size w w' := by
  obtain ⟨i0, hi, iz0, iz1, iz2⟩ := info_parts Try.infoS
  obtain ⟨W0, hW0⟩ : ∃ W0, (w.alloc (.cells #[.int .i64 base, .slice A l.length c] 24)).alloc (.cells #[.int .i64 0, .slice none 0 0] 24) = W0 := ⟨_, rfl⟩
  obtain ⟨p, hp⟩ : ∃ p, w.heap.size = p := ⟨_, rfl⟩
  have hX0 : Blk W0 p 24 [.int .i64 base, .slice A l.length c] := by rw [← hW0, ← hp]; exact (two_new w _ _ [_, _] [_, _]).1
  have hR0 : Blk W0 (p + 1) 24 [.int .i64 0, .slice none 0 0] := by rw [← hW0, ← hp]; exact (two_new w _ _ [_, _] [_, _]).2.1
  have hB0 : Below p w W0 := by rw [← hW0, ← hp]; exact (two_new w _ _ [_, _] [_, _]).2.2
  have hr0 := hr.bel (by rw [hp]; exact hB0)
  have HW := hide hW0
  clear hW0 hr
  have c0 := hX0.cell 0; have c1 := hX0.cell 1; simp only [List.getElem?_cons_zero, List.getElem?_cons_succ] at c0 c1
  have z0 := hR0.lt
  go_enter Try.func18, Try.ntmps18
  go_upto_region 1 with fail
  rw [HW.out]
  refine wp_region_held (S := fun w' => w'.cell? ⟨p, 0, none⟩ = some (.int .i64 base) ∧ w'.cell? ⟨p, 1, none⟩ = some (.slice A l.length c)) (by kernel_rfl) ?_
  have hSd : W0.drew.cell? ⟨p, 0, none⟩ = some (.int .i64 base) ∧ W0.drew.cell? ⟨p, 1, none⟩ = some (.slice A l.length c) := ⟨c0, c1⟩
  change wpAnyH _ _ _ _ _ _ _ _ W0.drew
  clear c0 c1
  refine wpAnyH_take (i := 0) (v := ?_) rfl (by kernel_rfl) (by kernel_rfl) (by kernel_rfl) (fun _ _ _ h => h) (Or.inl ⟨by kernel_rfl, ?_⟩) (by assumption) ?_
  rotate_left 1
  · (intro w hSw; obtain ⟨hk1, hk2⟩ := hSw; go_simp <;> with_reducible rfl)
  simp only [Act.put, List.getElem_toArray, List.getElem_cons_zero, List.setIfInBounds_toArray, List.set_cons_zero, List.set_cons_succ]
  refine wpAnyH_take (i := 1) (v := ?_) rfl (by kernel_rfl) (by kernel_rfl) (by kernel_rfl) (fun _ _ _ h => h) (Or.inl ⟨by kernel_rfl, ?_⟩) (by assumption) ?_
  rotate_left 1
  · (intro w hSw; obtain ⟨hk1, hk2⟩ := hSw; go_simp <;> with_reducible rfl)
  simp only [Act.put, List.getElem_toArray, List.getElem_cons_zero, List.getElem_cons_succ, List.setIfInBounds_toArray, List.set_cons_zero, List.set_cons_succ]
  refine wpAnyH_take (i := 3) (v := ?_) rfl (by kernel_rfl) (by kernel_rfl) (by kernel_rfl) (fun _ _ _ h => h) (Or.inl ⟨by kernel_rfl, ?_⟩) (by assumption) ?_
  rotate_left 1
  · (intro w hSw; obtain ⟨hk1, hk2⟩ := hSw; go_simp <;> with_reducible rfl)
  simp only [Act.put, List.getElem_toArray, List.getElem_cons_zero, List.getElem_cons_succ, List.setIfInBounds_toArray, List.set_cons_zero, List.set_cons_succ]
  refine wpAnyH_take (i := 4) (v := ?_) rfl (by kernel_rfl) (by kernel_rfl) (by kernel_rfl) (fun _ _ _ h => h) (Or.inl ⟨by kernel_rfl, ?_⟩) (by assumption) ?_
  rotate_left 1
  · (intro w hSw; obtain ⟨hk1, hk2⟩ := hSw; go_simp <;> with_reducible rfl)
  simp only [Act.put, List.getElem_toArray, List.getElem_cons_zero, List.getElem_cons_succ, List.setIfInBounds_toArray, List.set_cons_zero, List.set_cons_succ]
  refine nextH (i := 2) (by kernel_rfl) rfl (fun K hK => ?_)
  go_simp
  obtain ⟨W5, hW5⟩ : ∃ W5, (W0.alloc (.cells #[] 69)).drew = W5 := ⟨_, rfl⟩
  have hb5 : Below W0.heap.size W0 W5 := by rw [← hW5]; exact (alloc_bel _ _).drew
  have hown5 : W5.ownsRow W0.heap.size 69 2 (.slice (some ⟨W0.heap.size, 0, none⟩) 0 0) 0 [] := by rw [← hW5]; exact World.ownsRow_made W0 #[] 0 (Nat.le_refl _) (by unfold maxLen; omega) rfl
  have hX5 := hX0.bel hb5
  have hR5 := hR0.bel hb5
  have hr5 := hr0.bel hb5
  have hS5 : W5.cell? ⟨p, 0, none⟩ = some (.int .i64 base) ∧ W5.cell? ⟨p, 1, none⟩ = some (.slice A l.length c) := ⟨hX5.cell 0, hX5.cell 1⟩
  have hs5 : W0.heap.size ≤ W5.heap.size := hb5.size
  rw [hW5]
  clear hW5 hSd
  try dsimp only
  refine hK _ _ hS5 ?_
  clear hK K
  refine nextH (i := 5) (by kernel_rfl) rfl (fun K hK => ?_)
  refine step_append_rd _ (by rfl) _ _ _ (by rfl) W0.heap.size 69 i0 _ 2 16 Try.underlying22 hi iz0 iz1 iz2 rfl (by decide) (.slice (some ⟨W0.heap.size, 0, none⟩) 0 0) 0 [] (by rfl) hown5 A l.length c (gs l) (by rfl) (by simp) hr5 (gs_one l) (by unfold maxLen; omega) (by omega) hs5 ?_
  intro v6 W6 hown6 hg6
  obtain ⟨A6, c6, rfl⟩ := ownsRow_slice hown6
  have hcap6 : l.length ≤ c6 := by have := own_cap hown6; omega
  have hX6 : Blk W6 p 24 [.int .i64 base, .slice A l.length c] := (hg6.block p hX5.lt (fun e => by have e' : some p = some W0.heap.size := e; have := Option.some.inj e'; omega)).trans hX5
  have hR6 : Blk W6 (p + 1) 24 [.int .i64 0, .slice none 0 0] := (hg6.block (p + 1) hR5.lt (fun e => by have e' : some (p + 1) = some W0.heap.size := e; have := Option.some.inj e'; omega)).trans hR5
  have hS6 : W6.cell? ⟨p, 0, none⟩ = some (.int .i64 base) ∧ W6.cell? ⟨p, 1, none⟩ = some (.slice A l.length c) := ⟨hX6.cell 0, hX6.cell 1⟩
  have hB6 : Below p w W6 := (hB0.trans (hb5.mono (by omega))).grown hg6 (by omega) (fun j hj => by have e' : some W0.heap.size = some j := hj; have := Option.some.inj e'; omega)
  simp only [Act.put, List.getElem_toArray, List.getElem_cons_zero, List.getElem_cons_succ, List.setIfInBounds_toArray, List.set_cons_zero, List.set_cons_succ]
  refine hK _ _ hS6 ?_
  clear hK K
  refine nextH (i := 6) (by kernel_rfl) rfl (fun K hK => ?_)
  go_simp
  refine hK _ _ hS6 ?_
  clear hK K
  have r0 := hR6.frozen 0
  have r1 := hR6.frozen 1
  have r2 := hR6.cell 0
  have r3 := hR6.cell 1
  have r4 := hR6.lt
  simp only [List.getElem?_cons_zero, List.getElem?_cons_succ] at r2 r3
  refine nextH (i := 7) (by kernel_rfl) rfl (fun K hK => ?_)
  go_simp
  have hBE : Below p w ((W6.setCell ⟨p + 1, 0, none⟩ (.int .i64 base)).setCell ⟨p + 1, 1, none⟩ (.slice A6 l.length c6)) := (hB6.setCell (by show p ≤ p + 1; omega) _).setCell (by show p ≤ p + 1; omega) _
  have hRE := (hR6.set_ 0 (.int .i64 base)).set_ 1 (.slice A6 l.length c6)
  have hXE := (hX6.far (p := ⟨p + 1, 0, none⟩) (by show p ≠ p + 1; omega) (.int .i64 base)).far (p := ⟨p + 1, 1, none⟩) (by show p ≠ p + 1; omega) (.slice A6 l.length c6)
  have hrE := Rd.of_own (own_far (own_far hown6 (p := ⟨p + 1, 0, none⟩) (by show p + 1 < W0.heap.size; omega) (.int .i64 base)) (p := ⟨p + 1, 1, none⟩) (by show p + 1 < W0.heap.size; omega) (.slice A6 l.length c6))
  generalize (W6.setCell ⟨p + 1, 0, none⟩ (.int .i64 base)).setCell ⟨p + 1, 1, none⟩ (.slice A6 l.length c6) = WE at hBE hRE hXE hrE ⊢
  refine hK _ _ ⟨hXE.cell 0, hXE.cell 1⟩ ?_
  clear hK K
  refine wpAnyH_done (by kernel_rfl) ?_ _
  have v0 := hRE.cell 0
  have v1 := hRE.cell 1
  simp only [List.set_cons_zero, List.set_cons_succ, List.getElem?_cons_zero, List.getElem?_cons_succ] at v0 v1
  go_wp2
  exact bodyPost_ret (v := .agg #[.int .i64 base, .slice A6 l.length c6]) (by simp [results, Try.results18, go_sem, v0, v1]; try rfl) rfl ⟨⟨A6, c6, rfl, by simpa using hrE, hcap6⟩, by rw [hp]; exact hBE⟩

theorem ints_c (l m : List Int) (A B : Option Addr) (c d : Nat) (w : World) (hr : Rd w A (ints l)) (hs : Rd w B (ints m)) (hl : l.length ≤ 1000) :
    Calls Try.prog 32 #[.slice A l.length c, .slice B m.length d] w fun r w' => r = .returned (.bool (decide (l = m))) ∧ Below w.heap.size w w' := by
  by_cases hn : l.length = m.length
  · have e1 : ((l.length : Int) != (m.length : Int)) = false := by simp; omega
    have hm : m.length ≤ 1000 := by omega
    have HN := hide hn
    clear hn
    go_enter Try.func32, Try.ntmps32
    go_wp2
    go_loopw [5] (fun i wr => ∃ k : Nat, k ≤ l.length ∧ i = .int .i64 k ∧ Below w.heap.size w wr ∧ Hid (∀ j (h : j < l.length) (h' : j < m.length), j < k → l[j] = m[j])) (fun i _ => l.length - (intOf i).toNat)
    case atStart => exact ⟨0, Nat.zero_le _, rfl, Below.refl _ _, fun _ _ _ h => by omega⟩
    case round =>
      obtain ⟨k, hk, rfl, hb, h0⟩ := hrel
      by_cases hlt : k < l.length
      · have hlt' : k < m.length := by have := HN.out; omega
        obtain ⟨b, off, rfl, hblt, hc0⟩ := (hr.bel hb).int_at hlt
        obtain ⟨b', off', rfl, hblt', hc0'⟩ := (hs.bel hb).int_at hlt'
        by_cases hz : l[k] = m[k]
        · have e2 : (l[k] != m[k]) = false := by simpa using hz
          have H1 : Hid (∀ j (h : j < l.length) (h' : j < m.length), j < k + 1 → l[j] = m[j]) := fun j h h' hj => by
            by_cases e : j = k
            · subst e; exact hz
            · exact h0.out j h h' (by omega)
          clear hz
          go_wp2
          go_quiet (fail)
          go_wp2
          go_roundw
          case rel => exact ⟨k + 1, by omega, by go_num, below_drewN hb _, H1⟩
          case measure => simp [intOf]; omega
        · have e2 : (l[k] != m[k]) = true := by simpa using hz
          have H : Hid (decide (l = m) = false) := by show decide (l = m) = false; simp; rintro rfl; exact hz rfl
          clear hz
          go_wp2
          go_quiet (fail)
          go_wp2
          go_ret
          exact ⟨by rw [H.out]; rfl, below_drewN hb _⟩
      · have H : Hid (decide (l = m) = true) := by
          show decide (l = m) = true
          simp
          refine List.ext_getElem HN.out fun j h h' => h0.out j h h' (by omega)
        go_wp2
        go_ret
        exact ⟨by rw [H.out]; rfl, hb⟩
  · have H : Hid (decide (l = m) = false) := by show decide (l = m) = false; simp; rintro rfl; exact hn rfl
    have e1 : ((l.length : Int) != (m.length : Int)) = true := by simp; omega
    clear hn
    go_enter Try.func32, Try.ntmps32
    go_wp2
    go_ret
    exact ⟨by rw [H.out]; rfl, Below.refl _ _⟩

/-- A profile compared with one that reads the same. -/
theorem same_eq (base : Int) (A B : Option Addr) (c d : Nat) (l : List G) (w : World) (hr : Rd w A (gs l)) (hs : Rd w B (gs l)) (hl : l.length ≤ 1000) :
    Calls Try.prog 31 #[.agg #[.int .i64 base, .slice A l.length c], .agg #[.int .i64 base, .slice B l.length d]] w fun r w' => r = .returned (.bool true) ∧ Below w.heap.size w w' := by
  obtain ⟨W0, hW0⟩ : ∃ W0, (w.alloc (.cells #[.int .i64 base, .slice A l.length c] 24)).alloc (.cells #[.int .i64 base, .slice B l.length d] 24) = W0 := ⟨_, rfl⟩
  obtain ⟨p, hp⟩ : ∃ p, w.heap.size = p := ⟨_, rfl⟩
  have hX0 : Blk W0 p 24 [.int .i64 base, .slice A l.length c] := by rw [← hW0, ← hp]; exact (two_new w _ _ [_, _] [_, _]).1
  have hY0 : Blk W0 (p + 1) 24 [.int .i64 base, .slice B l.length d] := by rw [← hW0, ← hp]; exact (two_new w _ _ [_, _] [_, _]).2.1
  have hB0 : Below p w W0 := by rw [← hW0, ← hp]; exact (two_new w _ _ [_, _] [_, _]).2.2
  have hr0 := hr.bel (by rw [hp]; exact hB0)
  have hs0 := hs.bel (by rw [hp]; exact hB0)
  have HW := hide hW0
  clear hW0 hr hs
  have c0 := hX0.cell 0; have c1 := hX0.cell 1; simp only [List.getElem?_cons_zero, List.getElem?_cons_succ] at c0 c1
  have d0 := hY0.cell 0; have d1 := hY0.cell 1; simp only [List.getElem?_cons_zero, List.getElem?_cons_succ] at d0 d1
  have z0 := hY0.lt
  go_enter Try.func31, Try.ntmps31
  go_upto_region 1 with fail
  rw [HW.out]
  go_wp2
  clear c0 c1 d0 d1
  go_loopw [5] (fun i wr => ∃ k : Nat, k ≤ l.length ∧ i = .int .i64 k ∧ Below W0.heap.size W0 wr) (fun i _ => l.length - (intOf i).toNat)
  case atStart => exact ⟨0, Nat.zero_le _, rfl, Below.refl _ _⟩
  case round =>
    obtain ⟨k, hk, rfl, hb⟩ := hrel
    have hXr := hX0.bel hb
    have hYr := hY0.bel hb
    have c0 := hXr.cell 0; have c1 := hXr.cell 1; simp only [List.getElem?_cons_zero, List.getElem?_cons_succ] at c0 c1
    have d0 := hYr.cell 0; have d1 := hYr.cell 1; simp only [List.getElem?_cons_zero, List.getElem?_cons_succ] at d0 d1
    have z1 := hYr.lt
    by_cases hlt : k < l.length
    · obtain ⟨b, off, rfl, hblt, hc0, hc1⟩ := (hr0.bel hb).g_at hlt
      obtain ⟨b', off', rfl, hblt', hc0', hc1'⟩ := (hs0.bel hb).g_at hlt
      generalize l[k] = g at hc0 hc1 hc0' hc1'
      obtain ⟨ga, gb⟩ := g
      dsimp only at hc0 hc1 hc0' hc1'
      go_wp2
      go_quiet (fail)
      go_wp2
      go_roundw
      case rel => exact ⟨k + 1, by omega, by go_num, below_drewN hb _⟩
      case measure => simp [intOf]; omega
    · obtain rfl : k = l.length := by omega
      go_wp2
      go_ret
      exact ⟨rfl, by rw [hp]; exact bel_tr hB0 (by omega) hb⟩

def canJ (x y : G) : Bool := decide (x.1 = y.1 ∧ x.2 + y.2 ≤ 500)
theorem canJoin_c (x y : G) (w : World) (hx : 0 ≤ x.2 ∧ x.2 ≤ 500) (hy : 0 ≤ y.2 ∧ y.2 ≤ 500) :
    Calls Try.prog 78 #[.agg #[.int .i64 x.1, .int .i64 x.2], .agg #[.int .i64 y.1, .int .i64 y.2]] w fun r w' => r = .returned (.bool (canJ x y)) ∧ Below w.heap.size w w' := by
  obtain ⟨a, b⟩ := x
  obtain ⟨m, n⟩ := y
  dsimp only at hx hy ⊢
  by_cases h1 : a = m
  · subst h1
    by_cases h2 : b + n ≤ 500
    · have H : Hid (canJ (a, b) (a, n) = true) := by show _ = _; unfold canJ; simp [h2]
      go_enter Try.func78, Try.ntmps78
      go_wp2
      go_ret
      exact ⟨by rw [H.out]; rfl, bel_alloc (alloc_bel _ _) (by simp) _⟩
    · have H : Hid (canJ (a, b) (a, n) = false) := by show _ = _; unfold canJ; simp [h2]
      go_enter Try.func78, Try.ntmps78
      go_wp2
      go_ret
      exact ⟨by rw [H.out]; rfl, bel_alloc (alloc_bel _ _) (by simp) _⟩
  · have H : Hid (canJ (a, b) (m, n) = false) := by show _ = _; unfold canJ; simp [h1]
    have e1 : (a == m) = false := by simpa using h1
    go_enter Try.func78, Try.ntmps78
    go_wp2
    go_ret
    exact ⟨by rw [H.out]; rfl, bel_alloc (alloc_bel _ _) (by simp) _⟩

theorem besideD_c (base : Int) (A : Option Addr) (c : Nat) (l : List G) (i : Nat) (w : World) (hr : Rd w A (gs l)) (hl : l.length ≤ 1000) (hi : i ≤ l.length) :
    Calls Try.prog 79 #[.agg #[.int .i64 base, .slice A l.length c], .int .i64 i, .int .i64 (-1)] w fun r w' => r = .returned (.int .i64 (bDown l i)) ∧ Below w.heap.size w w' := by
  obtain ⟨W0, hW0⟩ : ∃ W0, w.alloc (.cells #[.int .i64 base, .slice A l.length c] 24) = W0 := ⟨_, rfl⟩
  have hX0 : Blk W0 w.heap.size 24 [.int .i64 base, .slice A l.length c] := by rw [← hW0]; exact Blk.new w _ [_, _]
  have hB0 : Below w.heap.size w W0 := by rw [← hW0]; exact alloc_bel w _
  have hr0 := hr.bel hB0
  have HW := hide hW0
  clear hW0 hr
  have c0 := hX0.cell 0; have c1 := hX0.cell 1; simp only [List.getElem?_cons_zero, List.getElem?_cons_succ] at c0 c1
  have z0 := hX0.lt
  go_enter Try.func79, Try.ntmps79
  go_upto_region 1 with fail
  rw [HW.out]
  go_wp2
  clear c0 c1
  go_loopw [7] (fun x wr => ∃ k : Nat, k ≤ i ∧ x = .int .i64 ((k : Int) - 1) ∧ Below W0.heap.size W0 wr ∧ Hid (bDown l k = bDown l i)) (fun x _ => (intOf x + 1).toNat)
  case atStart => exact ⟨i, Nat.le_refl _, by go_num, Below.refl _ _, rfl⟩
  case round =>
    obtain ⟨k, hk, rfl, hb, hd⟩ := hrel
    have hXr := hX0.bel hb
    have c0 := hXr.cell 0; have c1 := hXr.cell 1; simp only [List.getElem?_cons_zero, List.getElem?_cons_succ] at c0 c1
    have z1 := hXr.lt
    have HWi := hide (fun W => within_c ((k : Int) - 1) 0 ((l.length : Int) - 1) W)
    cases k with
    | zero =>
      have e : outB (((0 : Nat) : Int) - 1) 0 ((l.length : Int) - 1) = true := outB_true.2 (by omega)
      rw [e] at HWi
      have hd0 : Hid (0 = bDown l i) := hd
      rw [show (((0 : Nat) : Int) - 1) = -1 from rfl] at HWi ⊢
      clear hd e
      go_wp2_with (go_at_call 23; refine (HWi.out _).mono ?_; rintro e_ w_ ⟨rfl, rfl⟩)
      go_ret
      exact ⟨by rw [← hd0.out]; rfl, tr hB0 hb hB0.size⟩
    | succ k =>
      have e : outB (((k + 1 : Nat) : Int) - 1) 0 ((l.length : Int) - 1) = false := outB_false.2 (by omega)
      rw [e] at HWi
      rw [show (((k + 1 : Nat) : Int) - 1) = (k : Int) by omega] at HWi ⊢
      obtain ⟨b, off, rfl, hblt, hc0, hc1⟩ := (hr0.bel hb).g_at (show k < l.length by omega)
      have hd1 : Hid ((if 0 < (l.getD k G0).2 then (l.getD k G0).1 else bDown l k) = bDown l i) := hd
      rw [getD_at (show k < l.length by omega)] at hd1
      generalize l[k].1 = s1 at hc0 hd1
      generalize l[k].2 = t1 at hc1 hd1
      clear hd e
      by_cases ht : 0 < t1
      · have hd2 : Hid (s1 = bDown l i) := by have := hd1.out; rw [if_pos ht] at this; exact this
        clear hd1
        go_wp2_with (go_at_call 23; refine (HWi.out _).mono ?_; rintro e_ w_ ⟨rfl, rfl⟩)
        go_ret
        exact ⟨by rw [← hd2.out]; rfl, tr hB0 hb hB0.size⟩
      · have hd2 : Hid (bDown l k = bDown l i) := by have := hd1.out; rw [if_neg ht] at this; exact this
        clear hd1
        go_wp2_with (go_at_call 23; refine (HWi.out _).mono ?_; rintro e_ w_ ⟨rfl, rfl⟩)
        go_roundw
        case rel => exact ⟨k, by omega, by go_num, hb, hd2⟩
        case measure => simp [intOf]; omega

theorem besideU_c (base : Int) (A : Option Addr) (c : Nat) (l : List G) (i : Nat) (w : World) (hr : Rd w A (gs l)) (hl : l.length ≤ 1000) (hi : i < l.length) :
    Calls Try.prog 79 #[.agg #[.int .i64 base, .slice A l.length c], .int .i64 i, .int .i64 1] w fun r w' => r = .returned (.int .i64 (bUp l (i + 1))) ∧ Below w.heap.size w w' := by
  obtain ⟨W0, hW0⟩ : ∃ W0, w.alloc (.cells #[.int .i64 base, .slice A l.length c] 24) = W0 := ⟨_, rfl⟩
  have hX0 : Blk W0 w.heap.size 24 [.int .i64 base, .slice A l.length c] := by rw [← hW0]; exact Blk.new w _ [_, _]
  have hB0 : Below w.heap.size w W0 := by rw [← hW0]; exact alloc_bel w _
  have hr0 := hr.bel hB0
  have HW := hide hW0
  clear hW0 hr
  have c0 := hX0.cell 0; have c1 := hX0.cell 1; simp only [List.getElem?_cons_zero, List.getElem?_cons_succ] at c0 c1
  have z0 := hX0.lt
  go_enter Try.func79, Try.ntmps79
  go_upto_region 1 with fail
  rw [HW.out]
  go_wp2
  clear c0 c1
  go_loopw [7] (fun x wr => ∃ k : Nat, k ≤ l.length ∧ x = .int .i64 k ∧ Below W0.heap.size W0 wr ∧ Hid (bUp l k = bUp l (i + 1))) (fun x _ => l.length - (intOf x).toNat)
  case atStart => exact ⟨i + 1, by omega, by go_num, Below.refl _ _, rfl⟩
  case round =>
    obtain ⟨k, hk, rfl, hb, hd⟩ := hrel
    have hXr := hX0.bel hb
    have c0 := hXr.cell 0; have c1 := hXr.cell 1; simp only [List.getElem?_cons_zero, List.getElem?_cons_succ] at c0 c1
    have z1 := hXr.lt
    have HWi := hide (fun W => within_c (k : Int) 0 ((l.length : Int) - 1) W)
    by_cases hlt : k < l.length
    · have e : outB (k : Int) 0 ((l.length : Int) - 1) = false := outB_false.2 (by omega)
      rw [e] at HWi
      obtain ⟨b, off, rfl, hblt, hc0, hc1⟩ := (hr0.bel hb).g_at hlt
      have hd1 : Hid ((if 0 < (l.getD k G0).2 then (l.getD k G0).1 else bUp l (k + 1)) = bUp l (i + 1)) := by show _ = _; rw [← bUp_step hlt]; exact hd.out
      rw [getD_at hlt] at hd1
      generalize l[k].1 = s1 at hc0 hd1
      generalize l[k].2 = t1 at hc1 hd1
      clear hd e
      by_cases ht : 0 < t1
      · have hd2 : Hid (s1 = bUp l (i + 1)) := by have := hd1.out; rw [if_pos ht] at this; exact this
        clear hd1
        go_wp2_with (go_at_call 23; refine (HWi.out _).mono ?_; rintro e_ w_ ⟨rfl, rfl⟩)
        go_ret
        exact ⟨by rw [← hd2.out]; rfl, tr hB0 hb hB0.size⟩
      · have hd2 : Hid (bUp l (k + 1) = bUp l (i + 1)) := by have := hd1.out; rw [if_neg ht] at this; exact this
        clear hd1
        go_wp2_with (go_at_call 23; refine (HWi.out _).mono ?_; rintro e_ w_ ⟨rfl, rfl⟩)
        go_roundw
        case rel => exact ⟨k + 1, by omega, by go_num, hb, hd2⟩
        case measure => simp [intOf]; omega
    · obtain rfl : k = l.length := by omega
      have e : outB (l.length : Int) 0 ((l.length : Int) - 1) = true := outB_true.2 (by omega)
      rw [e] at HWi
      have hd0 : Hid (0 = bUp l (i + 1)) := by show _ = _; rw [← hd.out]; exact (bUp_end (Nat.le_refl _)).symm
      clear hd e
      go_wp2_with (go_at_call 23; refine (HWi.out _).mono ?_; rintro e_ w_ ⟨rfl, rfl⟩)
      go_ret
      exact ⟨by rw [← hd0.out]; rfl, tr hB0 hb hB0.size⟩

/-- The answer of IsRising. -/
def risV (base : Int) (l : List G) : Bool × Int := if (proE base l).2 = 0 then (risN l (l.length - 1), 0) else (false, (proE base l).2)
theorem refIsRising_c (base : Int) (A : Option Addr) (c : Nat) (l : List G) (w : World) (hr : Rd w A (gs l)) (hl : l.length ≤ 1000) (hn : 1 ≤ l.length) :
    Calls Try.prog 35 #[.agg #[.int .i64 base, .slice A l.length c]] w fun r w' => r = .returned (.bool (risN l (l.length - 1))) ∧ Below w.heap.size w w' := by
  obtain ⟨W0, hW0⟩ : ∃ W0, w.alloc (.cells #[.int .i64 base, .slice A l.length c] 24) = W0 := ⟨_, rfl⟩
  have hX0 : Blk W0 w.heap.size 24 [.int .i64 base, .slice A l.length c] := by rw [← hW0]; exact Blk.new w _ [_, _]
  have hB0 : Below w.heap.size w W0 := by rw [← hW0]; exact alloc_bel w _
  have hr0 := hr.bel hB0
  have HW := hide hW0
  clear hW0 hr
  have c0 := hX0.cell 0; have c1 := hX0.cell 1; simp only [List.getElem?_cons_zero, List.getElem?_cons_succ] at c0 c1
  have z0 := hX0.lt
  go_enter Try.func35, Try.ntmps35
  go_upto_region 1 with fail
  rw [HW.out]
  go_wp2
  clear c0 c1
  go_loopw [3] (fun x wr => ∃ k : Nat, k + 1 ≤ l.length ∧ x = .int .i64 ((k : Int) + 1) ∧ Below W0.heap.size W0 wr ∧ Hid (risN l k = true)) (fun x _ => l.length - (intOf x).toNat)
  case atStart => exact ⟨0, hn, rfl, Below.refl _ _, rfl⟩
  case round =>
    obtain ⟨k, hk, rfl, hb, hd⟩ := hrel
    have hXr := hX0.bel hb
    have c0 := hXr.cell 0; have c1 := hXr.cell 1; simp only [List.getElem?_cons_zero, List.getElem?_cons_succ] at c0 c1
    have z1 := hXr.lt
    by_cases hlt : k + 1 < l.length
    · obtain ⟨b, off, rfl, hblt, hc0, _⟩ := (hr0.bel hb).g_at (show k < l.length by omega)
      obtain ⟨b2, off2, e2, hblt2, hd0, _⟩ := (hr0.bel hb).g_at hlt
      cases e2
      have hs : Hid (risN l (k + 1) = (true && decide (l[k].1 < l[k + 1].1))) := by show _ = _; rw [risN, hd.out, getD_at hlt, getD_at (show k < l.length by omega)]
      have hf := hide (fun h => risN_false (l := l) (k := k + 1) (n := l.length - 1) h (by omega))
      generalize l[k].1 = s1 at hc0 hs
      generalize l[k + 1].1 = s2 at hd0 hs
      have i2 : ((k : Int) + 1).toNat = k + 1 := by omega
      by_cases ht : s1 < s2
      · have hs2 : Hid (risN l (k + 1) = true) := by show _ = _; rw [hs.out]; simp [ht]
        have e1 : decide (s2 ≤ s1) = false := decide_eq_false (by omega)
        clear hs hf
        go_wp2
        go_quiet (fail)
        go_wp2
        go_roundw
        case rel => exact ⟨k + 1, by omega, by go_num, below_drewN hb _, hs2⟩
        case measure => simp [intOf]; omega
      · have hs2 : Hid (risN l (l.length - 1) = false) := by show _ = _; refine hf.out ?_; rw [hs.out]; simp [ht]
        have e1 : decide (s2 ≤ s1) = true := decide_eq_true (by omega)
        clear hs hf
        go_wp2
        go_quiet (fail)
        go_wp2
        go_ret
        exact ⟨by rw [hs2.out]; rfl, below_drewN (tr hB0 hb hB0.size) _⟩
    · have hs2 : Hid (risN l (l.length - 1) = true) := by show _ = _; rw [show l.length - 1 = k by omega]; exact hd.out
      go_wp2
      go_ret
      exact ⟨by rw [hs2.out]; rfl, tr hB0 hb hB0.size⟩

set_option maxHeartbeats 1000000 in
theorem isRising_c (base : Int) (A : Option Addr) (c : Nat) (l : List G) (w : World) (hr : Rd w A (gs l)) (hl : l.length ≤ 1000) (hcap : l.length ≤ c) :
    Calls Try.prog 29 #[.agg #[.int .i64 base, .slice A l.length c]] w fun r w' => r = .returned (.tuple #[.bool (risV base l).1, .int .i64 (risV base l).2]) ∧ Below w.heap.size w w' := by
  have HE := hide (fun W h => profileError_c base A c l W h hl)
  obtain ⟨W0, hW0⟩ : ∃ W0, w.alloc (.cells #[.int .i64 base, .slice A l.length c] 24) = W0 := ⟨_, rfl⟩
  have hX0 : Blk W0 w.heap.size 24 [.int .i64 base, .slice A l.length c] := by rw [← hW0]; exact Blk.new w _ [_, _]
  have hB0 : Below w.heap.size w W0 := by rw [← hW0]; exact alloc_bel w _
  have hr0 := hr.bel hB0
  have HW := hide hW0
  clear hW0 hr
  have c0 := hX0.cell 0; have c1 := hX0.cell 1; simp only [List.getElem?_cons_zero, List.getElem?_cons_succ] at c0 c1
  have z0 := hX0.lt
  by_cases he : (proE base l).2 = 0
  · have hP := proE_zero he
    have hn := hP.n0
    have HR : Hid (risV base l = (risN l (l.length - 1), 0)) := by show _ = _; unfold risV; rw [if_pos he]
    rw [he] at HE
    clear he hP
    obtain ⟨b, off, rfl, _, _, _⟩ := hr0.g_at (show 0 < l.length by omega)
    by_cases hc1 : c = 1
    · subst hc1
      have HN1 : Hid (l.length = 1) := by show _ = _; omega
      go_enter Try.func29, Try.ntmps29
      go_upto_region 1 with fail
      rw [HW.out]
      go_upto_region 4 with (first | (go_at_call 76; refine (HE.out _ hr0).mono ?_; rintro e w1 ⟨rfl, hb1⟩; have hX1 := hX0.bel hb1; have k0 := hX1.cell 0; have k1 := hX1.cell 1; simp only [List.getElem?_cons_zero, List.getElem?_cons_succ] at k0 k1; have zk := hX1.lt))
      have hr1 := hr0.bel hb1
      have hB1 := bel_tr hB0 (by omega) hb1
      go_wp2
      clear k0 k1 zk c0 c1
      go_loopw [16] (fun i wr => ∃ k : Nat, k + 1 ≤ l.length ∧ i = .int .i64 k ∧ Below w1.heap.size w1 wr ∧ Hid (risN l k = true)) (fun i _ => l.length - (intOf i).toNat)
      case atStart => exact ⟨0, hn, rfl, Below.refl _ _, rfl⟩
      case round =>
        obtain ⟨k, hk, rfl, hb, hd⟩ := hrel
        have hn1 := HN1.out
        obtain rfl : k = 0 := by omega
        have hs2 : Hid (risN l (l.length - 1) = true) := by show _ = _; rw [hn1]; rfl
        have e1 : decide ((0 : Int) < ((l.length - 1 : Nat) : Int)) = false := decide_eq_false (by omega)
        clear hn1
        go_wp2
        exact bodyPost_ret (v := .tuple #[.bool true, .int .i64 0]) (by simp [results, Try.results29, go_sem]; try rfl) rfl ⟨by rw [HR.out, hs2.out], bel_tr hB1 (by have := hB1.size; omega) hb⟩
    · have hc2 := hc1
      go_enter Try.func29, Try.ntmps29
      go_upto_region 1 with fail
      rw [HW.out]
      go_upto_region 4 with (first | (go_at_call 76; refine (HE.out _ hr0).mono ?_; rintro e w1 ⟨rfl, hb1⟩; have hX1 := hX0.bel hb1; have k0 := hX1.cell 0; have k1 := hX1.cell 1; simp only [List.getElem?_cons_zero, List.getElem?_cons_succ] at k0 k1; have zk := hX1.lt))
      have hr1 := hr0.bel hb1
      have hB1 := bel_tr hB0 (by omega) hb1
      go_wp2
      clear k0 k1 zk c0 c1
      go_loopw [16] (fun i wr => ∃ k : Nat, k + 1 ≤ l.length ∧ i = .int .i64 k ∧ Below w1.heap.size w1 wr ∧ Hid (risN l k = true)) (fun i _ => l.length - (intOf i).toNat)
      case atStart => exact ⟨0, hn, rfl, Below.refl _ _, rfl⟩
      case round =>
        obtain ⟨k, hk, rfl, hb, hd⟩ := hrel
        have hXr := hX1.bel hb
        have c0 := hXr.cell 0; have c1 := hXr.cell 1; simp only [List.getElem?_cons_zero, List.getElem?_cons_succ] at c0 c1
        have z1 := hXr.lt
        by_cases hlt : k + 1 < l.length
        · obtain ⟨_, _, e2, hblt, hc0, _⟩ := (hr1.bel hb).g_at (show k < l.length by omega)
          cases e2
          obtain ⟨_, _, e2, _, hd0, hd1⟩ := (hr1.bel hb).g_at hlt
          cases e2
          have hs : Hid (risN l (k + 1) = (true && decide (l[k].1 < l[k + 1].1))) := by show _ = _; rw [risN, hd.out, getD_at hlt, getD_at (show k < l.length by omega)]
          have hf := hide (fun h => risN_false (l := l) (k := k + 1) (n := l.length - 1) h (by omega))
          generalize l[k].1 = s1 at hc0 hs
          generalize l[k + 1].1 = s2 at hd0 hs
          generalize l[k + 1].2 = t2 at hd1
          rw [show off + (k + 1) * 2 = off + 2 + k * 2 by omega] at hd0 hd1
          have i1 : ((k : Int)) < ((l.length - 1 : Nat) : Int) := by omega
          go_upto_region 7 with fail
          obtain ⟨W3, hW3⟩ : ∃ W3, wr.alloc (.cells #[.int .i64 s2, .int .i64 t2] 69) = W3 := ⟨_, rfl⟩
          have hb3 : Below wr.heap.size wr W3 := by rw [← hW3]; exact alloc_bel _ _
          have hP3 : Blk W3 wr.heap.size 69 [.int .i64 s2, .int .i64 t2] := by rw [← hW3]; exact Blk.new wr _ [_, _]
          have hX3 := hXr.bel hb3
          rw [hW3]
          clear hW3 hd0 hd1 c0 c1 z1
          have n1 := (hb3.cell (p := ⟨b, off + k * 2, none⟩) hblt).trans hc0
          have d0 := hX3.cell 0; have d1 := hX3.cell 1; simp only [List.getElem?_cons_zero, List.getElem?_cons_succ] at d0 d1
          have g0 := hP3.cell 0; have g1 := hP3.cell 1; simp only [List.getElem?_cons_zero, List.getElem?_cons_succ] at g0 g1
          have z3 := hX3.lt
          have z4 := hP3.lt
          clear hc0
          by_cases ht : s1 < s2
          · have hs2 : Hid (risN l (k + 1) = true) := by show _ = _; rw [hs.out]; simp [ht]
            have e1 : decide (s2 ≤ s1) = false := decide_eq_false (by omega)
            clear hs hf
            go_quiet (fail)
            go_wp2
            go_roundw
            case rel => exact ⟨k + 1, by omega, by go_num, below_drewN (tr hb hb3 hb.size) _, hs2⟩
            case measure => simp [intOf]; omega
          · have hs2 : Hid (risN l (l.length - 1) = false) := by show _ = _; refine hf.out ?_; rw [hs.out]; simp [ht]
            have e1 : decide (s2 ≤ s1) = true := decide_eq_true (by omega)
            clear hs hf
            go_quiet (fail)
            go_wp2
            exact bodyPost_ret (v := .tuple #[.bool false, .int .i64 0]) (by simp [results, Try.results29, go_sem]; try rfl) rfl ⟨by rw [HR.out, hs2.out], bel_tr hB1 (by have := hB1.size; omega) (below_drewN (tr hb hb3 hb.size) _)⟩
        · have hs2 : Hid (risN l (l.length - 1) = true) := by show _ = _; rw [show l.length - 1 = k by omega]; exact hd.out
          have e1 : decide ((k : Int) < ((l.length - 1 : Nat) : Int)) = false := decide_eq_false (by omega)
          go_wp2
          exact bodyPost_ret (v := .tuple #[.bool true, .int .i64 0]) (by simp [results, Try.results29, go_sem]; try rfl) rfl ⟨by rw [HR.out, hs2.out], bel_tr hB1 (by have := hB1.size; omega) hb⟩
  · have e1 : ((proE base l).2 != 0) = true := by simpa using he
    have HR : Hid (risV base l = (false, (proE base l).2)) := by show _ = _; unfold risV; rw [if_neg he]
    clear he
    generalize (proE base l).2 = E at HE HR e1
    go_enter Try.func29, Try.ntmps29
    go_upto_region 1 with fail
    rw [HW.out]
    go_wp2_with (first | (go_at_call 76; refine (HE.out _ hr0).mono ?_; rintro e w1 ⟨rfl, hb1⟩))
    exact bodyPost_ret (v := .tuple #[.bool false, .int .i64 E]) (by simp [results, Try.results29, go_sem]; try rfl) rfl ⟨by rw [HR.out], bel_tr hB0 (by omega) hb1⟩
end Go.Proofs.Ytgnhkjfdicdcmaa

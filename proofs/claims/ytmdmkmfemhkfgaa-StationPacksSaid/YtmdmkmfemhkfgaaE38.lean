/- Contracts: the reference's greatest group. -/
import Derived.Test.YtmdmkmfemhkfgaaE37
set_option linter.unusedSimpArgs false
set_option linter.unusedVariables false
set_option linter.unusedSimpArgs false
set_option linter.unusedVariables false
namespace Go.Proofs.Ytmdmkmfemhkfgaa
open Go.RowKit
set_option maxRecDepth 100000

/-- A list of operations still to be walked, wrapped: so that no elaboration reckons what its guards ask. -/
structure WL (P : Program) (ops : Array Oper) (Q : Exit → Act → World → Prop) (l : List Oper) (a : Act) (w : World) : Prop where
  out : wpList P ops Q l a w
theorem WL.skip {P : Program} {ops : Array Oper} {Q : Exit → Act → World → Prop} {a : Act} {w : World} {rest : List Oper} {o : Oper} (h : Region.wanted o (yielded ops a.tmps) = false) (hn : WL P ops Q rest (a.put o.dst undef) w) : WL P ops Q (o :: rest) a w := by
  refine ⟨?_⟩
  unfold wpList
  rw [if_neg (by rw [h]; decide)]
  exact hn.out
theorem WL.take {P : Program} {ops : Array Oper} {Q : Exit → Act → World → Prop} {a : Act} {w : World} {rest : List Oper} {o : Oper} (h : Region.wanted o (yielded ops a.tmps) = true)
    (hn : ∀ K : Act → World → Prop, (∀ a w, WL P ops Q rest a w → K a w) → o.wp P a w K Q) : WL P ops Q (o :: rest) a w := by
  refine ⟨?_⟩
  unfold wpList
  rw [if_pos h]
  exact .inl (hn _ (fun _ _ h => h.out))
theorem WL.region {P : Program} {Q : Exit → Act → World → Prop} {a : Act} {w : World} {id : Nat} {l : List Oper} (h : WL P l.toArray Q l a w) : (Code.region id l.toArray false).wp P Q a w := wp_region_lit h.out
theorem WL.nil {P : Program} {ops : Array Oper} {Q : Exit → Act → World → Prop} {a : Act} {w : World} (h : Q .normal a w) : WL P ops Q [] a w := ⟨h⟩
theorem meas_up {k N : Nat} (h : k < N) : N - (intOf (Value.int .i64 ((k : Int) + 1))).toNat < N - (intOf (Value.int .i64 (k : Int))).toNat := by
  simp [intOf]
  omega
theorem setL_asc (set m : Nat) : (setL set m).Pairwise (· < ·) := by
  unfold setL
  rw [List.pairwise_map]
  exact (List.pairwise_lt_range.filter _).imp (fun h => by omega)
/-- The station i and the a first ones disturb each other. -/
def innB (l : List G) (L : List Int) (i a : Nat) : Bool := (List.range a).all fun a => decide ((L.getD a 0, L.getD i 0) ∈ l)
theorem innB_succ (l : List G) (L : List Int) (i a : Nat) : innB l L i (a + 1) = (innB l L i a && decide ((L.getD a 0, L.getD i 0) ∈ l)) := by
  unfold innB
  rw [List.range_succ, List.all_append]
  simp
theorem allB_succ (l : List G) (L : List Int) (i : Nat) : allB l L (i + 1) = (allB l L i && innB l L i i) := by
  unfold allB innB
  rw [List.range_succ, List.all_append]
  simp
set_option maxHeartbeats 2000000 in
theorem refGroupOf_c (n : Nat) (A : Option Addr) (c : Nat) (l : List G) (w : World) (hr : Rd w A (gs l)) (hl : l.length ≤ 1000) (hn1 : 1 ≤ n) (hn8 : n ≤ 8) :
    Calls Try.prog 44 #[.agg #[.int .i64 (n : Int), .slice A l.length c]] w fun r w' => (∃ A' c', r = .returned (.slice A' (refBest l n (2 ^ n)).length c') ∧ Rd w' A' (ints (refBest l n (2 ^ n)))) ∧ Below w.heap.size w w' := by
  obtain ⟨i0, hi, iz0, iz1, iz2⟩ := info_parts Try.infoN
  obtain ⟨p, hp⟩ : ∃ p, w.heap.size = p := ⟨_, rfl⟩
  obtain ⟨W, hW⟩ : ∃ W, w.alloc (.cells #[.int .i64 (n : Int), .slice A l.length c] 71) = W := ⟨_, rfl⟩
  have hX : Blk W p 71 [.int .i64 (n : Int), .slice A l.length c] := by rw [← hW, ← hp]; exact Blk.new w _ [_, _]
  have hB : Below p w W := by rw [← hW, ← hp]; exact alloc_bel _ _
  have hrW := hr.bel (by rw [hp]; exact hB)
  have hpW := hX.lt
  have HW := hide hW
  clear hW hr
  obtain ⟨N, hN⟩ : ∃ N : Nat, 2 ^ n = N := ⟨_, rfl⟩
  have hN1 : 1 ≤ N := by rw [← hN]; exact Nat.one_le_two_pow
  have hN2 : N ≤ 256 := by rw [← hN]; exact Nat.pow_le_pow_right (by decide) hn8
  have hNI : ((2 : Int) ^ n) = (N : Int) := by rw [← hN]; simp
  have hNW : wrap64 ((2 : Int) ^ n) = (N : Int) := by rw [hNI]; exact wrap64_id (by omega) (by omega)
  rw [hN]
  clear hNI hN
  go_enter Try.func44, Try.ntmps44
  go_upto_region 1 with fail
  try rw [hp]
  rw [HW.out]
  go_wp2
  go_loopw [3, 4] (fun v x wr => ∃ k : Nat, 1 ≤ k ∧ k ≤ N ∧ x = .int .i64 k ∧ Below W.heap.size W wr ∧ ∃ (b : List Int) (A' : Option Addr) (c' : Nat), v = .slice A' b.length c' ∧ Rd wr A' (ints b) ∧ b.length ≤ 8 ∧ Hid (b = refBest l n k)) (fun _ x _ => N - (intOf x).toNat)
  case atStart => exact ⟨1, by omega, hN1, rfl, Below.refl _ _, [], none, 0, rfl, Rd.nil _ _, by simp, rfl⟩
  case round =>
    obtain ⟨k, hk1, hk, rfl, hbr, b, A', c', rfl, hbst, hb8, HBE⟩ := hrel
    obtain ⟨w1, hw1⟩ : ∃ w1 : World, w1 = wr := ⟨_, rfl⟩
    subst hw1
    have hXr := hX.bel hbr
    have hsr := hbr.size
    have c0 := hXr.cell 0; have c1 := hXr.cell 1; simp only [List.getElem?_cons_zero, List.getElem?_cons_succ] at c0 c1
    by_cases hlt : k < N
    · have p1 : (k : Int) < (N : Int) := by omega
      have hk256 : k < 256 := by omega
      go_wp2
      clear c0 c1
      rw [hNW]
      go_loopw [5, 6] (fun v x wi => ∃ m : Nat, m ≤ n ∧ x = .int .i64 m ∧ Below w1.heap.size w1 wi ∧ wi.ownsRow w1.heap.size 3 1 v (setL k m).length (ints (setL k m))) (fun _ x _ => n - (intOf x).toNat)
      case atStart => exact ⟨0, Nat.zero_le _, rfl, Below.refl _ _, World.ownsRow_nil _ _ _ _⟩
      case round =>
        obtain ⟨m, hm, rfl, hbi, hown⟩ := hrel
        obtain ⟨w2, hw2⟩ : ∃ w2 : World, w2 = wr := ⟨_, rfl⟩
        subst hw2
        have hXi := hXr.bel hbi
        have hsi := hbi.size
        have c0 := hXi.cell 0; have c1 := hXi.cell 1; simp only [List.getElem?_cons_zero, List.getElem?_cons_succ] at c0 c1
        by_cases hltm : m < n
        · have p2 : (m : Int) < (n : Int) := by omega
          have HS := hide (setL_succ k m)
          have hL8 := setL_length k m
          cases hbit : k.testBit m
          · have e1 : (bits .and .i64 ((k : Int) / 2 ^ m) 1 == 1) = false := by rw [bit_at hk256 (by omega), hbit]
            have H1 : Hid (setL k (m + 1) = setL k m) := by show _ = _; rw [HS.out, hbit]; rfl
            clear HS hbit
            go_wp2
            exact ⟨⟨m + 1, by omega, by go_num, hbi, by rw [H1.out]; exact hown⟩, by simp [intOf]; omega⟩
          · have e1 : (bits .and .i64 ((k : Int) / 2 ^ m) 1 == 1) = true := by rw [bit_at hk256 (by omega), hbit]
            have H1 : Hid (setL k (m + 1) = setL k m ++ [(m : Int)]) := by show _ = _; rw [HS.out, hbit]; rfl
            clear HS hbit
            generalize setL k m = L at hown H1 hL8
            have HO := hide hown
            obtain ⟨A2, c2, rfl⟩ := ownsRow_slice hown
            clear hown
            go_wp2_with (first | (at_builtin; refine wpList_append_rd _ rfl _ _ 47 rfl w1.heap.size 3 i0 (.int .i64 0) 1 8 Try.underlying47 hi iz0 iz1 iz2 rfl (by decide) (.slice A2 L.length c2) L.length (ints L) rfl (ownsRow_bel HO.out (alloc_bel _ _)) (some ⟨w2.heap.size, 0, none⟩) 1 1 [.int .i64 (m : Int)] rfl rfl (rd_new _ _ [_]) (by simp [Value.oneCell']) (by unfold maxLen; omega) (by omega) (by simp; omega) ?_; intro v' w5 own5 hg5))
            have hb5 : Below w1.heap.size w1 w5 := (bel_alloc hbi hsi (.cells #[.int .i64 (m : Int)] 3)).grown hg5 (by simp; omega) (fun j hj => (HO.out.lt j hj).1)
            exact ⟨⟨m + 1, by omega, by go_num, hb5, by rw [H1.out, ints_append, List.length_append]; exact own5⟩, by simp [intOf]; omega⟩
        · obtain rfl : m = n := by omega
          have hL8 := setL_length k m
          have HSB := hide (refBest_succ l m k hk1)
          have HA := hide (List.pairwise_iff_getElem.1 (setL_asc k m))
          generalize setL k m = L at hown hL8 HSB HA
          obtain ⟨A2, c2, rfl⟩ := ownsRow_slice hown
          have hLr := Rd.of_own hown
          have hbst2 := hbst.bel hbi
          have hr2 := (hrW.bel hbr).bel hbi
          have hB2 : Below W.heap.size W w2 := bel_tr hbr hbr.size hbi
          clear hown
          have hX2 := hXi
          go_wp2
          clear c0 c1
          go_loopw [7, 8] (fun g x wi => ∃ i : Nat, i ≤ L.length ∧ x = .int .i64 i ∧ g = .bool (allB l L i) ∧ Below w2.heap.size w2 wi) (fun _ x _ => L.length - (intOf x).toNat)
          case atStart => exact ⟨0, Nat.zero_le _, rfl, rfl, Below.refl _ _⟩
          case round =>
            obtain ⟨i, hi', rfl, rfl, hb3⟩ := hrel
            obtain ⟨w3, hw3⟩ : ∃ w3 : World, w3 = wr := ⟨_, rfl⟩
            subst hw3
            by_cases hlti : i < L.length
            · have HAS := hide (allB_succ l L i)
              go_wp2
              go_loopw [7, 9] (fun g x wi => ∃ a : Nat, a ≤ i ∧ x = .int .i64 a ∧ g = .bool (allB l L i && innB l L i a) ∧ Below w2.heap.size w2 wi) (fun _ x _ => i - (intOf x).toNat)
              case atStart => exact ⟨0, Nat.zero_le _, rfl, by show _ = Value.bool (allB l L i && true); rw [Bool.and_true], hb3⟩
              case round =>
                obtain ⟨a, ha, rfl, rfl, hb4⟩ := hrel
                have hX4 := hX2.bel hb4
                have hr4 := hr2.bel hb4
                have hz4 := hX4.lt
                have c0 := hX4.cell 0; have c1 := hX4.cell 1; simp only [List.getElem?_cons_zero, List.getElem?_cons_succ] at c0 c1
                by_cases hlta : a < i
                · have HIS := hide (innB_succ l L i a)
                  rw [getI (show a < L.length by omega), getI hlti] at HIS
                  obtain ⟨g, off, rfl, hg, x0⟩ := (hLr.bel hb4).int_at (show a < L.length by omega)
                  obtain ⟨_, _, e', _, y0⟩ := (hLr.bel hb4).int_at hlti
                  injection e' with e'
                  injection e' with eb eo
                  subst eb eo
                  have hlt2 := HA.out a i (by omega) hlti hlta
                  have HD := hide (fun W' (hb : Below wr.heap.size wr W') => disturb_c (m : Int) (L[a]'(by omega)) (L[i]'hlti) A c l W' (hr4.bel hb) hl hlt2)
                  generalize L[a]'(by omega) = x at x0 HD HIS
                  generalize L[i]'hlti = y at y0 HD HIS
                  have i0 : (a : Int) < (L.length : Int) := by omega
                  have i1 : (i : Int) < (L.length : Int) := by omega
                  clear hlt2
                  cases hG : (allB l L i && innB l L i a)
                  · have H1 : Hid ((allB l L i && innB l L i (a + 1)) = false) := by show _ = _; rw [HIS.out, ← Bool.and_assoc, hG]; rfl
                    clear HIS hG HD
                    go_upto_region 18 with fail
                    have hSd : (∀ b o, b < wr.heap.size → wr.drew.cell? ⟨b, o, none⟩ = wr.cell? ⟨b, o, none⟩) ∧ Below wr.heap.size wr wr.drew := kp (Below.refl _ _).drew
                    refine wp_region_held (S := fun w' => (∀ b o, b < wr.heap.size → w'.cell? ⟨b, o, none⟩ = wr.cell? ⟨b, o, none⟩) ∧ Below wr.heap.size wr w') (by kernel_rfl) ?_
                    change wpAnyH _ _ _ _ _ _ _ _ wr.drew
                    refine wpAnyH_take (i := 0) (v := ?_) rfl (by kernel_rfl) (by kernel_rfl) (by kernel_rfl) (fun _ _ _ h => h) (Or.inl ⟨by kernel_rfl, ?_⟩) (by assumption) ?_
                    rotate_left 1
                    · (intro w hSw; obtain ⟨hk1, hk2⟩ := hSw; go_simp <;> with_reducible rfl)
                    simp only [Act.put, List.getElem_toArray, List.getElem_cons_zero, List.setIfInBounds_toArray, List.set_cons_zero, List.set_cons_succ]
                    refine wpAnyH_take (i := 1) (v := ?_) rfl (by kernel_rfl) (by kernel_rfl) (by kernel_rfl) (fun _ _ _ h => h) (Or.inl ⟨by kernel_rfl, ?_⟩) (by assumption) ?_
                    rotate_left 1
                    · (intro w hSw; obtain ⟨hk1, hk2⟩ := hSw; go_simp <;> with_reducible rfl)
                    simp only [Act.put, List.getElem_toArray, List.getElem_cons_zero, List.getElem_cons_succ, List.setIfInBounds_toArray, List.set_cons_zero, List.set_cons_succ]
                    refine wpAnyH_take (i := 2) (v := undef) rfl (by kernel_rfl) (by kernel_rfl) (by kernel_rfl) (fun _ _ _ h => h) (Or.inr ⟨by kernel_rfl, rfl⟩) (by assumption) ?_
                    simp only [Act.put, List.getElem_toArray, List.getElem_cons_zero, List.getElem_cons_succ, List.setIfInBounds_toArray, List.set_cons_zero, List.set_cons_succ]
                    refine wpAnyH_take (i := 3) (v := undef) rfl (by kernel_rfl) (by kernel_rfl) (by kernel_rfl) (fun _ _ _ h => h) (Or.inr ⟨by kernel_rfl, rfl⟩) (by assumption) ?_
                    simp only [Act.put, List.getElem_toArray, List.getElem_cons_zero, List.getElem_cons_succ, List.setIfInBounds_toArray, List.set_cons_zero, List.set_cons_succ]
                    refine wpAnyH_take (i := 4) (v := undef) rfl (by kernel_rfl) (by kernel_rfl) (by kernel_rfl) (fun _ _ _ h => h) (Or.inr ⟨by kernel_rfl, rfl⟩) (by assumption) ?_
                    simp only [Act.put, List.getElem_toArray, List.getElem_cons_zero, List.getElem_cons_succ, List.setIfInBounds_toArray, List.set_cons_zero, List.set_cons_succ]
                    refine wpAnyH_take (i := 5) (v := undef) rfl (by kernel_rfl) (by kernel_rfl) (by kernel_rfl) (fun _ _ _ h => h) (Or.inr ⟨by kernel_rfl, rfl⟩) (by assumption) ?_
                    simp only [Act.put, List.getElem_toArray, List.getElem_cons_zero, List.getElem_cons_succ, List.setIfInBounds_toArray, List.set_cons_zero, List.set_cons_succ]
                    refine wpAnyH_take (i := 6) (v := undef) rfl (by kernel_rfl) (by kernel_rfl) (by kernel_rfl) (fun _ _ _ h => h) (Or.inr ⟨by kernel_rfl, rfl⟩) (by assumption) ?_
                    simp only [Act.put, List.getElem_toArray, List.getElem_cons_zero, List.getElem_cons_succ, List.setIfInBounds_toArray, List.set_cons_zero, List.set_cons_succ]
                    refine wpAnyH_take (i := 7) (v := undef) rfl (by kernel_rfl) (by kernel_rfl) (by kernel_rfl) (fun _ _ _ h => h) (Or.inr ⟨by kernel_rfl, rfl⟩) (by assumption) ?_
                    simp only [Act.put, List.getElem_toArray, List.getElem_cons_zero, List.getElem_cons_succ, List.setIfInBounds_toArray, List.set_cons_zero, List.set_cons_succ]
                    refine wpAnyH_take (i := 8) (v := undef) rfl (by kernel_rfl) (by kernel_rfl) (by kernel_rfl) (fun _ _ _ h => h) (Or.inr ⟨by kernel_rfl, rfl⟩) (by assumption) ?_
                    simp only [Act.put, List.getElem_toArray, List.getElem_cons_zero, List.getElem_cons_succ, List.setIfInBounds_toArray, List.set_cons_zero, List.set_cons_succ]
                    refine wpAnyH_take (i := 9) (v := undef) rfl (by kernel_rfl) (by kernel_rfl) (by kernel_rfl) (fun _ _ _ h => h) (Or.inr ⟨by kernel_rfl, rfl⟩) (by assumption) ?_
                    simp only [Act.put, List.getElem_toArray, List.getElem_cons_zero, List.getElem_cons_succ, List.setIfInBounds_toArray, List.set_cons_zero, List.set_cons_succ]
                    refine wpAnyH_take (i := 10) (v := undef) rfl (by kernel_rfl) (by kernel_rfl) (by kernel_rfl) (fun _ _ _ h => h) (Or.inr ⟨by kernel_rfl, rfl⟩) (by assumption) ?_
                    simp only [Act.put, List.getElem_toArray, List.getElem_cons_zero, List.getElem_cons_succ, List.setIfInBounds_toArray, List.set_cons_zero, List.set_cons_succ]
                    refine wpAnyH_take (i := 11) (v := undef) rfl (by kernel_rfl) (by kernel_rfl) (by kernel_rfl) (fun _ _ _ h => h) (Or.inr ⟨by kernel_rfl, rfl⟩) (by assumption) ?_
                    simp only [Act.put, List.getElem_toArray, List.getElem_cons_zero, List.getElem_cons_succ, List.setIfInBounds_toArray, List.set_cons_zero, List.set_cons_succ]
                    refine wpAnyH_take (i := 12) (v := ?_) rfl (by kernel_rfl) (by kernel_rfl) (by kernel_rfl) (fun _ _ _ h => h) (Or.inl ⟨by kernel_rfl, ?_⟩) (by assumption) ?_
                    rotate_left 1
                    · (intro w hSw; obtain ⟨hk1, hk2⟩ := hSw; go_simp <;> with_reducible rfl)
                    simp only [Act.put, List.getElem_toArray, List.getElem_cons_zero, List.getElem_cons_succ, List.setIfInBounds_toArray, List.set_cons_zero, List.set_cons_succ]
                    refine nextH (i := 13) (by kernel_rfl) rfl (fun K hK => ?_)
                    go_simp
                    refine hK _ _ hSd ?_
                    clear hK K
                    refine wpAnyH_done (by kernel_rfl) ?_ _
                    go_wp2
                    exact ⟨⟨a + 1, by omega, by go_num, by rw [H1.out], below_drewN hb4 1⟩, by simp [intOf]; omega⟩
                  · have H1 : Hid ((allB l L i && innB l L i (a + 1)) = decide ((x, y) ∈ l)) := by show _ = _; rw [HIS.out, ← Bool.and_assoc, hG, Bool.true_and]
                    clear HIS hG
                    generalize decide ((x, y) ∈ l) = dd at HD H1
                    --<R18
                    go_upto_region 18 with fail
                    have hSd : (∀ b o, b < wr.heap.size → wr.drew.cell? ⟨b, o, none⟩ = wr.cell? ⟨b, o, none⟩) ∧ Below wr.heap.size wr wr.drew := kp (Below.refl _ _).drew
                    refine wp_region_held (S := fun w' => (∀ b o, b < wr.heap.size → w'.cell? ⟨b, o, none⟩ = wr.cell? ⟨b, o, none⟩) ∧ Below wr.heap.size wr w') (by kernel_rfl) ?_
                    change wpAnyH _ _ _ _ _ _ _ _ wr.drew
                    refine wpAnyH_take (i := 0) (v := ?_) rfl (by kernel_rfl) (by kernel_rfl) (by kernel_rfl) (fun _ _ _ h => h) (Or.inl ⟨by kernel_rfl, ?_⟩) (by assumption) ?_
                    rotate_left 1
                    · (intro w hSw; obtain ⟨hk1, hk2⟩ := hSw; go_simp <;> with_reducible rfl)
                    simp only [Act.put, List.getElem_toArray, List.getElem_cons_zero, List.setIfInBounds_toArray, List.set_cons_zero, List.set_cons_succ]
                    refine wpAnyH_take (i := 1) (v := ?_) rfl (by kernel_rfl) (by kernel_rfl) (by kernel_rfl) (fun _ _ _ h => h) (Or.inl ⟨by kernel_rfl, ?_⟩) (by assumption) ?_
                    rotate_left 1
                    · (intro w hSw; obtain ⟨hk1, hk2⟩ := hSw; go_simp <;> with_reducible rfl)
                    simp only [Act.put, List.getElem_toArray, List.getElem_cons_zero, List.getElem_cons_succ, List.setIfInBounds_toArray, List.set_cons_zero, List.set_cons_succ]
                    refine wpAnyH_take (i := 2) (v := ?_) rfl (by kernel_rfl) (by kernel_rfl) (by kernel_rfl) (fun _ _ _ h => h) (Or.inl ⟨by kernel_rfl, ?_⟩) (by assumption) ?_
                    rotate_left 1
                    · (intro w hSw; obtain ⟨hk1, hk2⟩ := hSw; go_simp <;> with_reducible rfl)
                    simp only [Act.put, List.getElem_toArray, List.getElem_cons_zero, List.getElem_cons_succ, List.setIfInBounds_toArray, List.set_cons_zero, List.set_cons_succ]
                    refine wpAnyH_take (i := 3) (v := ?_) rfl (by kernel_rfl) (by kernel_rfl) (by kernel_rfl) (fun _ _ _ h => h) (Or.inl ⟨by kernel_rfl, ?_⟩) (by assumption) ?_
                    rotate_left 1
                    · (intro w hSw; obtain ⟨hk1, hk2⟩ := hSw; go_simp <;> with_reducible rfl)
                    simp only [Act.put, List.getElem_toArray, List.getElem_cons_zero, List.getElem_cons_succ, List.setIfInBounds_toArray, List.set_cons_zero, List.set_cons_succ]
                    refine wpAnyH_take (i := 4) (v := ?_) rfl (by kernel_rfl) (by kernel_rfl) (by kernel_rfl) (fun _ _ _ h => h) (Or.inl ⟨by kernel_rfl, ?_⟩) (by assumption) ?_
                    rotate_left 1
                    · (intro w hSw; obtain ⟨hk1, hk2⟩ := hSw; go_simp <;> with_reducible rfl)
                    simp only [Act.put, List.getElem_toArray, List.getElem_cons_zero, List.getElem_cons_succ, List.setIfInBounds_toArray, List.set_cons_zero, List.set_cons_succ]
                    refine wpAnyH_take (i := 5) (v := ?_) rfl (by kernel_rfl) (by kernel_rfl) (by kernel_rfl) (fun _ _ _ h => h) (Or.inl ⟨by kernel_rfl, ?_⟩) (by assumption) ?_
                    rotate_left 1
                    · (intro w hSw; obtain ⟨hk1, hk2⟩ := hSw; go_simp <;> with_reducible rfl)
                    simp only [Act.put, List.getElem_toArray, List.getElem_cons_zero, List.getElem_cons_succ, List.setIfInBounds_toArray, List.set_cons_zero, List.set_cons_succ]
                    refine wpAnyH_take (i := 6) (v := ?_) rfl (by kernel_rfl) (by kernel_rfl) (by kernel_rfl) (fun _ _ _ h => h) (Or.inl ⟨by kernel_rfl, ?_⟩) (by assumption) ?_
                    rotate_left 1
                    · (intro w hSw; obtain ⟨hk1, hk2⟩ := hSw; go_simp <;> with_reducible rfl)
                    simp only [Act.put, List.getElem_toArray, List.getElem_cons_zero, List.getElem_cons_succ, List.setIfInBounds_toArray, List.set_cons_zero, List.set_cons_succ]
                    refine wpAnyH_take (i := 7) (v := ?_) rfl (by kernel_rfl) (by kernel_rfl) (by kernel_rfl) (fun _ _ _ h => h) (Or.inl ⟨by kernel_rfl, ?_⟩) (by assumption) ?_
                    rotate_left 1
                    · (intro w hSw; obtain ⟨hk1, hk2⟩ := hSw; go_simp <;> with_reducible rfl)
                    simp only [Act.put, List.getElem_toArray, List.getElem_cons_zero, List.getElem_cons_succ, List.setIfInBounds_toArray, List.set_cons_zero, List.set_cons_succ]
                    refine wpAnyH_take (i := 8) (v := ?_) rfl (by kernel_rfl) (by kernel_rfl) (by kernel_rfl) (fun _ _ _ h => h) (Or.inl ⟨by kernel_rfl, ?_⟩) (by assumption) ?_
                    rotate_left 1
                    · (intro w hSw; obtain ⟨hk1, hk2⟩ := hSw; go_simp <;> with_reducible rfl)
                    simp only [Act.put, List.getElem_toArray, List.getElem_cons_zero, List.getElem_cons_succ, List.setIfInBounds_toArray, List.set_cons_zero, List.set_cons_succ]
                    refine wpAnyH_take (i := 9) (v := ?_) rfl (by kernel_rfl) (by kernel_rfl) (by kernel_rfl) (fun _ _ _ h => h) (Or.inl ⟨by kernel_rfl, ?_⟩) (by assumption) ?_
                    rotate_left 1
                    · (intro w hSw; obtain ⟨hk1, hk2⟩ := hSw; go_simp <;> with_reducible rfl)
                    simp only [Act.put, List.getElem_toArray, List.getElem_cons_zero, List.getElem_cons_succ, List.setIfInBounds_toArray, List.set_cons_zero, List.set_cons_succ]
                    refine wpAnyH_take (i := 10) (v := ?_) rfl (by kernel_rfl) (by kernel_rfl) (by kernel_rfl) (fun _ _ _ h => h) (Or.inl ⟨by kernel_rfl, ?_⟩) (by assumption) ?_
                    rotate_left 1
                    · (intro w hSw; obtain ⟨hk1, hk2⟩ := hSw; go_simp <;> with_reducible rfl)
                    simp only [Act.put, List.getElem_toArray, List.getElem_cons_zero, List.getElem_cons_succ, List.setIfInBounds_toArray, List.set_cons_zero, List.set_cons_succ]
                    refine nextH (i := 11) (by kernel_rfl) rfl (fun K hK => ?_)
                    go_simp
                    refine (HD.out _ hSd.2).mono ?_
                    rintro e_ w5 ⟨rfl, hb5⟩
                    have hB5 : Below wr.heap.size wr w5 := bel_tr hSd.2 hSd.2.size hb5
                    have hS5 := kp hB5
                    try dsimp only
                    refine hK _ _ hS5 ?_
                    clear hK K hSd
                    refine wpAnyH_take (i := 12) (v := ?_) rfl (by kernel_rfl) (by kernel_rfl) (by kernel_rfl) (fun _ _ _ h => h) (Or.inl ⟨by kernel_rfl, ?_⟩) (by assumption) ?_
                    rotate_left 1
                    · (intro w hSw; obtain ⟨hk1, hk2⟩ := hSw; go_simp <;> with_reducible rfl)
                    simp only [Act.put, List.getElem_toArray, List.getElem_cons_zero, List.getElem_cons_succ, List.setIfInBounds_toArray, List.set_cons_zero, List.set_cons_succ]
                    refine nextH (i := 13) (by kernel_rfl) rfl (fun K hK => ?_)
                    go_simp
                    refine hK _ _ hS5 ?_
                    clear hK K
                    refine wpAnyH_done (by kernel_rfl) ?_ _
                    go_wp2
                    exact ⟨⟨a + 1, by omega, by go_num, by rw [H1.out], bel_tr hb4 hb4.size hB5⟩, by simp [intOf]; omega⟩
                    -->R18
                · obtain rfl : a = i := by omega
                  have H1 : Hid (allB l L (a + 1) = (allB l L a && innB l L a a)) := HAS.out
                  go_wp2
                  exact ⟨⟨a + 1, by omega, by go_num, by rw [H1.out], hb4⟩, by simp [intOf]; omega⟩
            · obtain rfl : i = L.length := by omega
              --<R19
              have hX3 := hX2.bel hb3
              have hb3' : Rd w3 A' (ints b) := hbst2.bel hb3
              have hL3 : Rd w3 A2 (ints L) := hLr.bel hb3
              have hB3 : Below W.heap.size W w3 := bel_tr hB2 hB2.size hb3
              have HBF := hide (before_c L b A2 A' c2 c' w3 hL3 hb3' (by omega) (by omega))
              have HBO : Hid (refBest l m (k + 1) = if allB l L L.length && (decide (b.length < L.length) || (decide (L.length = b.length) && lexB L b)) then L else b) := by show _ = _; rw [HSB.out, ← HBE.out]; rfl
              clear HSB HBE
              cases hgg : allB l L L.length
              · have HF : Hid (b = refBest l m (k + 1)) := by show _ = _; rw [HBO.out, hgg]; rfl
                --<Ra
                clear hgg HBO HBF
                go_upto_region 19 with fail
                refine WL.region ?_
                refine WL.take (by kernel_rfl) (fun K hK => ?_)
                go_simp
                refine hK _ _ ?_
                clear hK K
                refine WL.take (by kernel_rfl) (fun K hK => ?_)
                go_simp
                refine hK _ _ ?_
                clear hK K
                refine WL.skip (by kernel_rfl) ?_
                simp only [Act.put, List.getElem_toArray, List.getElem_cons_zero, List.getElem_cons_succ, List.setIfInBounds_toArray, List.set_cons_zero, List.set_cons_succ]
                refine WL.skip (by kernel_rfl) ?_
                simp only [Act.put, List.getElem_toArray, List.getElem_cons_zero, List.getElem_cons_succ, List.setIfInBounds_toArray, List.set_cons_zero, List.set_cons_succ]
                refine WL.skip (by kernel_rfl) ?_
                simp only [Act.put, List.getElem_toArray, List.getElem_cons_zero, List.getElem_cons_succ, List.setIfInBounds_toArray, List.set_cons_zero, List.set_cons_succ]
                refine WL.skip (by kernel_rfl) ?_
                simp only [Act.put, List.getElem_toArray, List.getElem_cons_zero, List.getElem_cons_succ, List.setIfInBounds_toArray, List.set_cons_zero, List.set_cons_succ]
                refine WL.skip (by kernel_rfl) ?_
                simp only [Act.put, List.getElem_toArray, List.getElem_cons_zero, List.getElem_cons_succ, List.setIfInBounds_toArray, List.set_cons_zero, List.set_cons_succ]
                refine WL.skip (by kernel_rfl) ?_
                simp only [Act.put, List.getElem_toArray, List.getElem_cons_zero, List.getElem_cons_succ, List.setIfInBounds_toArray, List.set_cons_zero, List.set_cons_succ]
                refine WL.skip (by kernel_rfl) ?_
                simp only [Act.put, List.getElem_toArray, List.getElem_cons_zero, List.getElem_cons_succ, List.setIfInBounds_toArray, List.set_cons_zero, List.set_cons_succ]
                refine WL.skip (by kernel_rfl) ?_
                simp only [Act.put, List.getElem_toArray, List.getElem_cons_zero, List.getElem_cons_succ, List.setIfInBounds_toArray, List.set_cons_zero, List.set_cons_succ]
                refine WL.skip (by kernel_rfl) ?_
                simp only [Act.put, List.getElem_toArray, List.getElem_cons_zero, List.getElem_cons_succ, List.setIfInBounds_toArray, List.set_cons_zero, List.set_cons_succ]
                refine WL.skip (by kernel_rfl) ?_
                simp only [Act.put, List.getElem_toArray, List.getElem_cons_zero, List.getElem_cons_succ, List.setIfInBounds_toArray, List.set_cons_zero, List.set_cons_succ]
                refine WL.skip (by kernel_rfl) ?_
                simp only [Act.put, List.getElem_toArray, List.getElem_cons_zero, List.getElem_cons_succ, List.setIfInBounds_toArray, List.set_cons_zero, List.set_cons_succ]
                refine WL.skip (by kernel_rfl) ?_
                simp only [Act.put, List.getElem_toArray, List.getElem_cons_zero, List.getElem_cons_succ, List.setIfInBounds_toArray, List.set_cons_zero, List.set_cons_succ]
                refine WL.skip (by kernel_rfl) ?_
                simp only [Act.put, List.getElem_toArray, List.getElem_cons_zero, List.getElem_cons_succ, List.setIfInBounds_toArray, List.set_cons_zero, List.set_cons_succ]
                refine WL.skip (by kernel_rfl) ?_
                simp only [Act.put, List.getElem_toArray, List.getElem_cons_zero, List.getElem_cons_succ, List.setIfInBounds_toArray, List.set_cons_zero, List.set_cons_succ]
                refine WL.skip (by kernel_rfl) ?_
                simp only [Act.put, List.getElem_toArray, List.getElem_cons_zero, List.getElem_cons_succ, List.setIfInBounds_toArray, List.set_cons_zero, List.set_cons_succ]
                refine WL.skip (by kernel_rfl) ?_
                simp only [Act.put, List.getElem_toArray, List.getElem_cons_zero, List.getElem_cons_succ, List.setIfInBounds_toArray, List.set_cons_zero, List.set_cons_succ]
                refine WL.skip (by kernel_rfl) ?_
                simp only [Act.put, List.getElem_toArray, List.getElem_cons_zero, List.getElem_cons_succ, List.setIfInBounds_toArray, List.set_cons_zero, List.set_cons_succ]
                refine WL.take (by kernel_rfl) (fun K hK => ?_)
                go_simp
                refine hK _ _ ?_
                clear hK K
                refine WL.nil ?_
                go_wp2
                exact ⟨⟨k + 1, Nat.le_add_left 1 k, hlt, by go_num, hB3, b, A', c', rfl, hb3', hb8, HF⟩, meas_up hlt⟩
                -->Ra
              · rw [hgg] at HBO
                clear hgg
                by_cases q1 : b.length < L.length
                · have HF : Hid (L = refBest l m (k + 1)) := by show _ = _; rw [HBO.out, decide_eq_true q1]; rfl
                  have q2 : (b.length : Int) < (L.length : Int) := by omega
                  --<Rb
                  clear HBO HBF
                  go_upto_region 19 with fail
                  refine WL.region ?_
                  refine WL.take (by kernel_rfl) (fun K hK => ?_)
                  go_simp
                  refine hK _ _ ?_
                  clear hK K
                  refine WL.take (by kernel_rfl) (fun K hK => ?_)
                  go_simp
                  refine hK _ _ ?_
                  clear hK K
                  refine WL.take (by kernel_rfl) (fun K hK => ?_)
                  go_simp
                  refine hK _ _ ?_
                  clear hK K
                  refine WL.take (by kernel_rfl) (fun K hK => ?_)
                  go_simp
                  refine hK _ _ ?_
                  clear hK K
                  refine WL.take (by kernel_rfl) (fun K hK => ?_)
                  go_simp
                  refine hK _ _ ?_
                  clear hK K
                  refine WL.take (by kernel_rfl) (fun K hK => ?_)
                  go_simp
                  refine hK _ _ ?_
                  clear hK K
                  refine WL.take (by kernel_rfl) (fun K hK => ?_)
                  go_simp
                  refine hK _ _ ?_
                  clear hK K
                  refine WL.take (by kernel_rfl) (fun K hK => ?_)
                  go_simp
                  refine hK _ _ ?_
                  clear hK K
                  refine WL.skip (by kernel_rfl) ?_
                  simp only [Act.put, List.getElem_toArray, List.getElem_cons_zero, List.getElem_cons_succ, List.setIfInBounds_toArray, List.set_cons_zero, List.set_cons_succ]
                  refine WL.skip (by kernel_rfl) ?_
                  simp only [Act.put, List.getElem_toArray, List.getElem_cons_zero, List.getElem_cons_succ, List.setIfInBounds_toArray, List.set_cons_zero, List.set_cons_succ]
                  refine WL.skip (by kernel_rfl) ?_
                  simp only [Act.put, List.getElem_toArray, List.getElem_cons_zero, List.getElem_cons_succ, List.setIfInBounds_toArray, List.set_cons_zero, List.set_cons_succ]
                  refine WL.skip (by kernel_rfl) ?_
                  simp only [Act.put, List.getElem_toArray, List.getElem_cons_zero, List.getElem_cons_succ, List.setIfInBounds_toArray, List.set_cons_zero, List.set_cons_succ]
                  refine WL.skip (by kernel_rfl) ?_
                  simp only [Act.put, List.getElem_toArray, List.getElem_cons_zero, List.getElem_cons_succ, List.setIfInBounds_toArray, List.set_cons_zero, List.set_cons_succ]
                  refine WL.skip (by kernel_rfl) ?_
                  simp only [Act.put, List.getElem_toArray, List.getElem_cons_zero, List.getElem_cons_succ, List.setIfInBounds_toArray, List.set_cons_zero, List.set_cons_succ]
                  refine WL.skip (by kernel_rfl) ?_
                  simp only [Act.put, List.getElem_toArray, List.getElem_cons_zero, List.getElem_cons_succ, List.setIfInBounds_toArray, List.set_cons_zero, List.set_cons_succ]
                  refine WL.skip (by kernel_rfl) ?_
                  simp only [Act.put, List.getElem_toArray, List.getElem_cons_zero, List.getElem_cons_succ, List.setIfInBounds_toArray, List.set_cons_zero, List.set_cons_succ]
                  refine WL.skip (by kernel_rfl) ?_
                  simp only [Act.put, List.getElem_toArray, List.getElem_cons_zero, List.getElem_cons_succ, List.setIfInBounds_toArray, List.set_cons_zero, List.set_cons_succ]
                  refine WL.skip (by kernel_rfl) ?_
                  simp only [Act.put, List.getElem_toArray, List.getElem_cons_zero, List.getElem_cons_succ, List.setIfInBounds_toArray, List.set_cons_zero, List.set_cons_succ]
                  refine WL.take (by kernel_rfl) (fun K hK => ?_)
                  go_simp
                  refine hK _ _ ?_
                  clear hK K
                  refine WL.take (by kernel_rfl) (fun K hK => ?_)
                  go_simp
                  refine hK _ _ ?_
                  clear hK K
                  refine WL.nil ?_
                  go_wp2
                  exact ⟨⟨k + 1, Nat.le_add_left 1 k, hlt, by go_num, hB3, L, A2, c2, rfl, hL3, Nat.le_trans hL8 hn8, HF⟩, meas_up hlt⟩
                  -->Rb
                · have q2 : ¬ (b.length : Int) < (L.length : Int) := by omega
                  have q2' : (L.length : Int) ≤ (b.length : Int) := by omega
                  by_cases q3 : L.length = b.length
                  · have q4 : ((L.length : Int) == (b.length : Int)) = true := by simp [q3]
                    have HBO2 : Hid (refBest l m (k + 1) = if lexB L b then L else b) := by show _ = _; rw [HBO.out, decide_eq_false q1, decide_eq_true q3]; rfl
                    have hL8' : L.length ≤ 8 := by omega
                    clear HBO q3
                    generalize lexB L b = lx at HBF HBO2
                    cases lx
                    · have HF : Hid (b = refBest l m (k + 1)) := HBO2.out.symm
                      --<Rc
                      clear HBO2
                      go_upto_region 19 with fail
                      refine WL.region ?_
                      refine WL.take (by kernel_rfl) (fun K hK => ?_)
                      go_simp
                      refine hK _ _ ?_
                      clear hK K
                      refine WL.take (by kernel_rfl) (fun K hK => ?_)
                      go_simp
                      refine hK _ _ ?_
                      clear hK K
                      refine WL.take (by kernel_rfl) (fun K hK => ?_)
                      go_simp
                      refine hK _ _ ?_
                      clear hK K
                      refine WL.take (by kernel_rfl) (fun K hK => ?_)
                      go_simp
                      refine hK _ _ ?_
                      clear hK K
                      refine WL.take (by kernel_rfl) (fun K hK => ?_)
                      go_simp
                      refine hK _ _ ?_
                      clear hK K
                      refine WL.take (by kernel_rfl) (fun K hK => ?_)
                      go_simp
                      refine hK _ _ ?_
                      clear hK K
                      refine WL.take (by kernel_rfl) (fun K hK => ?_)
                      go_simp
                      refine hK _ _ ?_
                      clear hK K
                      refine WL.take (by kernel_rfl) (fun K hK => ?_)
                      go_simp
                      refine hK _ _ ?_
                      clear hK K
                      refine WL.take (by kernel_rfl) (fun K hK => ?_)
                      go_simp
                      refine hK _ _ ?_
                      clear hK K
                      refine WL.take (by kernel_rfl) (fun K hK => ?_)
                      go_simp
                      refine hK _ _ ?_
                      clear hK K
                      refine WL.take (by kernel_rfl) (fun K hK => ?_)
                      go_simp
                      refine hK _ _ ?_
                      clear hK K
                      refine WL.take (by kernel_rfl) (fun K hK => ?_)
                      go_simp
                      refine hK _ _ ?_
                      clear hK K
                      refine WL.take (by kernel_rfl) (fun K hK => ?_)
                      go_simp
                      refine hK _ _ ?_
                      clear hK K
                      refine WL.take (by kernel_rfl) (fun K hK => ?_)
                      go_simp
                      refine hK _ _ ?_
                      clear hK K
                      refine WL.take (by kernel_rfl) (fun K hK => ?_)
                      go_simp
                      refine hK _ _ ?_
                      clear hK K
                      refine WL.take (by kernel_rfl) (fun K hK => ?_)
                      go_simp
                      refine hK _ _ ?_
                      clear hK K
                      refine WL.take (by kernel_rfl) (fun K hK => ?_)
                      go_simp
                      refine HBF.out.mono ?_
                      rintro e_ w5 ⟨rfl, hb5⟩
                      try dsimp only
                      refine hK _ _ ?_
                      clear hK K
                      refine WL.take (by kernel_rfl) (fun K hK => ?_)
                      go_simp
                      refine hK _ _ ?_
                      clear hK K
                      refine WL.take (by kernel_rfl) (fun K hK => ?_)
                      go_simp
                      refine hK _ _ ?_
                      clear hK K
                      refine WL.take (by kernel_rfl) (fun K hK => ?_)
                      go_simp
                      refine hK _ _ ?_
                      clear hK K
                      refine WL.nil ?_
                      go_wp2
                      exact ⟨⟨k + 1, Nat.le_add_left 1 k, hlt, by go_num, bel_tr hB3 hB3.size hb5, b, A', c', rfl, hb3'.bel hb5, hb8, HF⟩, meas_up hlt⟩
                      -->Rc
                    · have HF : Hid (L = refBest l m (k + 1)) := HBO2.out.symm
                      --<Rd
                      clear HBO2
                      go_upto_region 19 with fail
                      refine WL.region ?_
                      refine WL.take (by kernel_rfl) (fun K hK => ?_)
                      go_simp
                      refine hK _ _ ?_
                      clear hK K
                      refine WL.take (by kernel_rfl) (fun K hK => ?_)
                      go_simp
                      refine hK _ _ ?_
                      clear hK K
                      refine WL.take (by kernel_rfl) (fun K hK => ?_)
                      go_simp
                      refine hK _ _ ?_
                      clear hK K
                      refine WL.take (by kernel_rfl) (fun K hK => ?_)
                      go_simp
                      refine hK _ _ ?_
                      clear hK K
                      refine WL.take (by kernel_rfl) (fun K hK => ?_)
                      go_simp
                      refine hK _ _ ?_
                      clear hK K
                      refine WL.take (by kernel_rfl) (fun K hK => ?_)
                      go_simp
                      refine hK _ _ ?_
                      clear hK K
                      refine WL.take (by kernel_rfl) (fun K hK => ?_)
                      go_simp
                      refine hK _ _ ?_
                      clear hK K
                      refine WL.take (by kernel_rfl) (fun K hK => ?_)
                      go_simp
                      refine hK _ _ ?_
                      clear hK K
                      refine WL.take (by kernel_rfl) (fun K hK => ?_)
                      go_simp
                      refine hK _ _ ?_
                      clear hK K
                      refine WL.take (by kernel_rfl) (fun K hK => ?_)
                      go_simp
                      refine hK _ _ ?_
                      clear hK K
                      refine WL.take (by kernel_rfl) (fun K hK => ?_)
                      go_simp
                      refine hK _ _ ?_
                      clear hK K
                      refine WL.take (by kernel_rfl) (fun K hK => ?_)
                      go_simp
                      refine hK _ _ ?_
                      clear hK K
                      refine WL.take (by kernel_rfl) (fun K hK => ?_)
                      go_simp
                      refine hK _ _ ?_
                      clear hK K
                      refine WL.take (by kernel_rfl) (fun K hK => ?_)
                      go_simp
                      refine hK _ _ ?_
                      clear hK K
                      refine WL.take (by kernel_rfl) (fun K hK => ?_)
                      go_simp
                      refine hK _ _ ?_
                      clear hK K
                      refine WL.take (by kernel_rfl) (fun K hK => ?_)
                      go_simp
                      refine hK _ _ ?_
                      clear hK K
                      refine WL.take (by kernel_rfl) (fun K hK => ?_)
                      go_simp
                      refine HBF.out.mono ?_
                      rintro e_ w5 ⟨rfl, hb5⟩
                      try dsimp only
                      refine hK _ _ ?_
                      clear hK K
                      refine WL.take (by kernel_rfl) (fun K hK => ?_)
                      go_simp
                      refine hK _ _ ?_
                      clear hK K
                      refine WL.take (by kernel_rfl) (fun K hK => ?_)
                      go_simp
                      refine hK _ _ ?_
                      clear hK K
                      refine WL.take (by kernel_rfl) (fun K hK => ?_)
                      go_simp
                      refine hK _ _ ?_
                      clear hK K
                      refine WL.nil ?_
                      go_wp2
                      exact ⟨⟨k + 1, Nat.le_add_left 1 k, hlt, by go_num, bel_tr hB3 hB3.size hb5, L, A2, c2, rfl, hL3.bel hb5, hL8', HF⟩, meas_up hlt⟩
                      -->Rd
                  · have q4 : ((L.length : Int) == (b.length : Int)) = false := by simp; omega
                    have HF : Hid (b = refBest l m (k + 1)) := by show _ = _; rw [HBO.out, decide_eq_false q1, decide_eq_false q3]; rfl
                    --<Re
                    clear HBO HBF
                    go_upto_region 19 with fail
                    refine WL.region ?_
                    refine WL.take (by kernel_rfl) (fun K hK => ?_)
                    go_simp
                    refine hK _ _ ?_
                    clear hK K
                    refine WL.take (by kernel_rfl) (fun K hK => ?_)
                    go_simp
                    refine hK _ _ ?_
                    clear hK K
                    refine WL.take (by kernel_rfl) (fun K hK => ?_)
                    go_simp
                    refine hK _ _ ?_
                    clear hK K
                    refine WL.take (by kernel_rfl) (fun K hK => ?_)
                    go_simp
                    refine hK _ _ ?_
                    clear hK K
                    refine WL.take (by kernel_rfl) (fun K hK => ?_)
                    go_simp
                    refine hK _ _ ?_
                    clear hK K
                    refine WL.take (by kernel_rfl) (fun K hK => ?_)
                    go_simp
                    refine hK _ _ ?_
                    clear hK K
                    refine WL.take (by kernel_rfl) (fun K hK => ?_)
                    go_simp
                    refine hK _ _ ?_
                    clear hK K
                    refine WL.take (by kernel_rfl) (fun K hK => ?_)
                    go_simp
                    refine hK _ _ ?_
                    clear hK K
                    refine WL.take (by kernel_rfl) (fun K hK => ?_)
                    go_simp
                    refine hK _ _ ?_
                    clear hK K
                    refine WL.take (by kernel_rfl) (fun K hK => ?_)
                    go_simp
                    refine hK _ _ ?_
                    clear hK K
                    refine WL.take (by kernel_rfl) (fun K hK => ?_)
                    go_simp
                    refine hK _ _ ?_
                    clear hK K
                    refine WL.take (by kernel_rfl) (fun K hK => ?_)
                    go_simp
                    refine hK _ _ ?_
                    clear hK K
                    refine WL.take (by kernel_rfl) (fun K hK => ?_)
                    go_simp
                    refine hK _ _ ?_
                    clear hK K
                    refine WL.take (by kernel_rfl) (fun K hK => ?_)
                    go_simp
                    refine hK _ _ ?_
                    clear hK K
                    refine WL.skip (by kernel_rfl) ?_
                    simp only [Act.put, List.getElem_toArray, List.getElem_cons_zero, List.getElem_cons_succ, List.setIfInBounds_toArray, List.set_cons_zero, List.set_cons_succ]
                    refine WL.skip (by kernel_rfl) ?_
                    simp only [Act.put, List.getElem_toArray, List.getElem_cons_zero, List.getElem_cons_succ, List.setIfInBounds_toArray, List.set_cons_zero, List.set_cons_succ]
                    refine WL.skip (by kernel_rfl) ?_
                    simp only [Act.put, List.getElem_toArray, List.getElem_cons_zero, List.getElem_cons_succ, List.setIfInBounds_toArray, List.set_cons_zero, List.set_cons_succ]
                    refine WL.take (by kernel_rfl) (fun K hK => ?_)
                    go_simp
                    refine hK _ _ ?_
                    clear hK K
                    refine WL.take (by kernel_rfl) (fun K hK => ?_)
                    go_simp
                    refine hK _ _ ?_
                    clear hK K
                    refine WL.take (by kernel_rfl) (fun K hK => ?_)
                    go_simp
                    refine hK _ _ ?_
                    clear hK K
                    refine WL.nil ?_
                    go_wp2
                    exact ⟨⟨k + 1, Nat.le_add_left 1 k, hlt, by go_num, hB3, b, A', c', rfl, hb3', hb8, HF⟩, meas_up hlt⟩
                    -->Re
              -->R19
    · obtain rfl : k = N := by omega
      have HL : Hid (refBest l n k = b) := HBE.out.symm
      go_wp2
      rw [HL.out]
      go_ret
      exact ⟨⟨A', c', rfl, hbst⟩, (by first | exact bel_tr hB (by omega) hbr | (rw [hp]; exact bel_tr hB (by omega) hbr))⟩
end Go.Proofs.Ytmdmkmfemhkfgaa

/- Contracts: the greatest group, station by station. -/
import Derived.Test.YtmdmkmfemhkfgaaE33
set_option linter.unusedSimpArgs false
set_option linter.unusedVariables false
set_option linter.unusedSimpArgs false
set_option linter.unusedVariables false
namespace Go.Proofs.Ytmdmkmfemhkfgaa
open Go.RowKit
set_option maxRecDepth 100000

/-- What groupFrom leaves. -/
def GP (out : List Int) (w : World) (e : Ending) (w' : World) : Prop := (∃ A'' c'', e = .returned (.slice A'' out.length c'') ∧ Rd w' A'' (ints out)) ∧ Below w.heap.size w w'
/-- The stations tried, the first k. -/
def tried (l : List G) (F : Nat → List Int) (g : List Int) (k : Nat) : List Int := (List.range k).foldl (fun best (s : Nat) => if g.any (apart l (s : Int)) then best else better best (F s)) g
theorem tried_succ (l : List G) (F : Nat → List Int) (g : List Int) (k : Nat) : tried l F g (k + 1) = if g.any (apart l (k : Int)) then tried l F g k else better (tried l F g k) (F k) := by
  unfold tried
  rw [List.range_succ, List.foldl_append]
  rfl
set_option maxHeartbeats 4000000 in
theorem groupFrom_step (l : List G) (A : Option Addr) (cp n : Nat) (F : Nat → List Int) (g : List Int) (hl : l.length ≤ 1000) (hg8 : g.length ≤ 8) (hn8 : n ≤ 8)
    (ih : ∀ (s : Nat), s < n → g.any (apart l (s : Int)) = false → ∀ (A' : Option Addr) (c' : Nat) (w : World), Rd w A' (ints (g ++ [(s : Int)])) → Rd w A (gs l) → Calls Try.prog 79 #[.agg #[.int .i64 (n : Int), .slice A l.length cp], .slice A' (g.length + 1) c'] w (GP (F s) w))
    (A' : Option Addr) (c' : Nat) (w : World) (hs : Rd w A' (ints g)) (hr : Rd w A (gs l)) :
    Calls Try.prog 79 #[.agg #[.int .i64 (n : Int), .slice A l.length cp], .slice A' g.length c'] w (GP (tried l F g n) w) := by
  obtain ⟨i0, hi, iz0, iz1, iz2⟩ := info_parts Try.infoN
  obtain ⟨p, hp⟩ : ∃ p, w.heap.size = p := ⟨_, rfl⟩
  obtain ⟨W, hW⟩ : ∃ W, w.alloc (.cells #[.int .i64 (n : Int), .slice A l.length cp] 71) = W := ⟨_, rfl⟩
  have hX : Blk W p 71 [.int .i64 (n : Int), .slice A l.length cp] := by rw [← hW, ← hp]; exact Blk.new w _ [_, _]
  have hB : Below p w W := by rw [← hW, ← hp]; exact alloc_bel _ _
  have hrW : Rd W A (gs l) := hr.bel (by rw [hp]; exact hB)
  have hsW : Rd W A' (ints g) := hs.bel (by rw [hp]; exact hB)
  have hpW := hX.lt
  have HW := hide hW
  clear hW hr hs
  have HIH := hide ih
  clear ih
  have c0 := hX.cell 0; have c1 := hX.cell 1; simp only [List.getElem?_cons_zero, List.getElem?_cons_succ] at c0 c1
  go_enter Try.func79, Try.ntmps79
  go_upto_region 1 with fail
  try rw [hp]
  rw [HW.out]
  go_wp2
  clear c0 c1
  go_loopw [5, 12] (fun v x wr => ∃ k : Nat, k ≤ n ∧ x = .int .i64 k ∧ Below W.heap.size W wr ∧ ∃ (b : List Int) (A'' : Option Addr) (c'' : Nat), v = .slice A'' b.length c'' ∧ Rd wr A'' (ints b) ∧ Hid (b = tried l F g k)) (fun _ x _ => n - (intOf x).toNat)
  case atStart => exact ⟨0, Nat.zero_le _, rfl, Below.refl _ _, g, A', c', rfl, hsW, rfl⟩
  case round =>
    obtain ⟨k, hk, rfl, hbr, b, A'', c'', rfl, hbst, HBE⟩ := hrel
    have hXr := hX.bel hbr
    have hsr := hbr.size
    by_cases hlt : k < n
    · have p2 : (k : Int) < (n : Int) := by omega
      have hba := alloc_bel wr (.cells #[.int .i64 (k : Int)] 3)
      have hKa := Blk.new wr 3 [.int .i64 (k : Int)]
      obtain ⟨wa, hwa⟩ : ∃ wa, wr.alloc (.cells #[.int .i64 (k : Int)] 3) = wa := ⟨_, rfl⟩
      obtain ⟨q, hq⟩ : ∃ q, wr.heap.size = q := ⟨_, rfl⟩
      rw [hwa] at hba hKa
      rw [hq] at hKa
      have hXa := hXr.bel hba
      have hBa : Below W.heap.size W wa := bel_tr hbr hbr.size hba
      have hra := hrW.bel hBa
      have hsa := hsW.bel hBa
      have hbsta := hbst.bel hba
      have HCF := hide (containsFuncI_c (apart l (k : Int)) 95 g A' c' #[.pointer (some ⟨p, 0, none⟩), .pointer (some ⟨q, 0, none⟩)] wa hsa (by omega) Try.call95 (fun j h W' hb => groupFrom1_c g[j] (k : Int) (n : Int) p q A cp l W' (hXa.bel hb) ((hKa.bel hb).cell 0) (hra.bel hb) hl))
      have HTS := hide (tried_succ l F g k)
      have HWA := hide hwa
      have HQ := hide hq
      by_cases hap : g.any (apart l (k : Int)) = true
      · have HT0 : Hid (b = tried l F g (k + 1)) := by show _ = _; rw [HTS.out, if_pos hap, HBE.out]
        rw [hap] at HCF
        clear hap HTS HBE
        have u0 := hXa.cell 0; have u1 := hXa.cell 1; simp only [List.getElem?_cons_zero, List.getElem?_cons_succ] at u0 u1
        go_wp2_with (first | (go_at_call 96; refine HCF.out.mono ?_; rintro e_ w5 ⟨rfl, hb5⟩))
        go_roundw
        case rel => exact ⟨k + 1, by omega, by go_num, bel_tr hBa hBa.size hb5, b, A'', c'', rfl, hbsta.bel hb5, HT0⟩
        case measure => simp [intOf]; omega
      · have hfk : g.any (apart l (k : Int)) = false := by simpa using hap
        have HT0 : Hid (tried l F g (k + 1) = better (tried l F g k) (F k)) := by show _ = _; rw [HTS.out, hfk]; rfl
        have HIK := hide (HIH.out k hlt hfk)
        rw [hfk] at HCF
        clear hap HTS hfk
        have u0 := hXa.cell 0; have u1 := hXa.cell 1; simp only [List.getElem?_cons_zero, List.getElem?_cons_succ] at u0 u1
        go_upto_region 7 with (first | (go_at_call 96; refine HCF.out.mono ?_; rintro e_ w5 ⟨rfl, hb5⟩))
        have hX5 := hXa.bel hb5
        have hK5 := hKa.bel hb5
        have hb05 : Below W.heap.size W w5 := bel_tr hBa hBa.size hb5
        have hr5 := hrW.bel hb05
        have hs5 := hsW.bel hb05
        have hbst5 := hbsta.bel hb5
        have hz5 := hX5.lt
        have hq5 := hK5.lt
        clear u0 u1 hXa hKa hra hsa hbsta HCF hb5 hba hBa hbr hXr hbst
        have j0 := hX5.cell 0; have j1 := hX5.cell 1; simp only [List.getElem?_cons_zero, List.getElem?_cons_succ] at j0 j1
        have jk := hK5.cell 0
        simp only [List.getElem?_cons_zero] at jk
        have hSd : (∀ b o, b < w5.heap.size → w5.drew.cell? ⟨b, o, none⟩ = w5.cell? ⟨b, o, none⟩) ∧ Below w5.heap.size w5 w5.drew := kp (Below.refl _ _).drew
        refine wp_region_held (S := fun w' => (∀ b o, b < w5.heap.size → w'.cell? ⟨b, o, none⟩ = w5.cell? ⟨b, o, none⟩) ∧ Below w5.heap.size w5 w') (by kernel_rfl) ?_
        change wpAnyH _ _ _ _ _ _ _ _ w5.drew
        refine wpAnyH_take (i := 0) (v := ?_) rfl (by kernel_rfl) (by kernel_rfl) (by kernel_rfl) (fun _ _ _ h => h) (Or.inl ⟨by kernel_rfl, ?_⟩) (by assumption) ?_
        rotate_left 1
        · (intro w hSw; obtain ⟨hk1, hk2⟩ := hSw; go_simp <;> with_reducible rfl)
        simp only [Act.put, List.getElem_toArray, List.getElem_cons_zero, List.setIfInBounds_toArray, List.set_cons_zero, List.set_cons_succ]
        refine wpAnyH_take (i := 1) (v := ?_) rfl (by kernel_rfl) (by kernel_rfl) (by kernel_rfl) (fun _ _ _ h => h) (Or.inl ⟨by kernel_rfl, ?_⟩) (by assumption) ?_
        rotate_left 1
        · (intro w hSw; obtain ⟨hk1, hk2⟩ := hSw; go_simp <;> with_reducible rfl)
        simp only [Act.put, List.getElem_toArray, List.getElem_cons_zero, List.getElem_cons_succ, List.setIfInBounds_toArray, List.set_cons_zero, List.set_cons_succ]
        refine wpAnyH_take (i := 3) (v := ?_) rfl (by kernel_rfl) (by kernel_rfl) (by kernel_rfl) (fun _ _ _ h => h) (Or.inl ⟨by kernel_rfl, ?_⟩) (by assumption) ?_
        rotate_left 1
        · (intro w hSw; obtain ⟨hk1, hk2⟩ := hSw; go_simp <;> with_reducible rfl)
        simp only [Act.put, List.getElem_toArray, List.getElem_cons_zero, List.getElem_cons_succ, List.setIfInBounds_toArray, List.set_cons_zero, List.set_cons_succ]
        refine nextH2 (i := 2) (j := 4) (by kernel_rfl) rfl rfl (fun K hK => ?_) (fun K hK => ?_)
        · go_simp
          refine (cloneOwn_c g A' c' _ (hs5.bel (Below.refl _ _).drew) (by omega)).mono ?_
          rintro e_ w6 ⟨⟨v6, rfl, own6⟩, hb6⟩
          try dsimp only
          have hB6 : Below w5.heap.size w5 w6 := bel_tr hSd.2 hSd.2.size hb6
          have hS6 := kp hB6
          refine hK _ _ hS6 ?_
          clear hK K hSd
          refine nextH (i := 4) (by kernel_rfl) rfl (fun K hK => ?_)
          go_simp
          obtain ⟨w7, hw7⟩ : ∃ w7, w6.alloc (.cells #[.int .i64 (k : Int)] 3) = w7 := ⟨_, rfl⟩
          have hb7 : Below w6.heap.size w6 w7 := by rw [← hw7]; exact alloc_bel _ _
          have hnew : Blk w7 w6.heap.size 3 [.int .i64 (k : Int)] := by rw [← hw7]; exact Blk.new w6 _ [_]
          have hB7 := bel_tr hB6 hB6.size hb7
          have hS7 := kp hB7
          rw [hw7]
          clear hw7
          try dsimp only
          refine hK _ _ hS7 ?_
          clear hK K
          have hba1 : w5.heap.size ≤ w5.heap.size := Nat.le_refl _
          have hba2 : w5.heap.size ≤ w7.heap.size := hB7.size
          have own7 : w7.ownsRow w5.heap.size 3 1 v6 g.length (ints g) := ownsRow_bel own6 hb7
          refine nextH (i := 5) (by kernel_rfl) rfl (fun K hK => ?_)
          refine step_append_two w7 (by rfl) _ _ _ (by rfl) w5.heap.size 3 i0 _ 1 8 Try.underlying47 hi iz0 iz1 iz2 rfl (by decide) _ g.length (ints g) (by rfl) own7 ⟨_, 0, none⟩ 1 1 [.int .i64 (k : Int)] (by rfl) rfl (World.news_of_block hnew) (by simp [Value.oneCell']) (by decide) (by unfold maxLen; omega) (by omega) (by omega) ?_
          intro v8 w8 own8 hg8 hcase
          obtain ⟨B', cb', rfl⟩ := ownsRow_slice own8
          have hB8 : Below w5.heap.size w5 w8 := Below.grown hB7 hg8 (hB7).size (fun j hj => by have := own7.lt j hj; omega)
          have hS8 := kp hB8
          simp only [Act.put, List.getElem_toArray, List.getElem_cons_zero, List.getElem_cons_succ, List.setIfInBounds_toArray, List.set_cons_zero, List.set_cons_succ]
          refine hK _ _ hS8 ?_
          clear hK K
          have HI := hide (HIK.out B' cb' w8 (by rw [ints_append]; exact Rd.of_own own8) (hr5.bel hB8))
          clear hcase hg8 own8
          generalize F k = f at HI HT0
          refine nextH (i := 6) (by kernel_rfl) rfl (fun K hK => ?_)
          go_simp
          refine HI.out.mono ?_
          rintro e w9 ⟨⟨A9, c9, rfl, hd9⟩, hb9⟩
          try dsimp only
          have hB9 := bel_tr hB8 hB8.size hb9
          have hS9 := kp hB9
          refine hK _ _ hS9 ?_
          clear hK K
          refine nextH (i := 7) (by kernel_rfl) rfl (fun K hK => ?_)
          go_simp
          refine hK _ _ hS9 ?_
          clear hK K
          refine wpAnyH_done (by kernel_rfl) ?_ _
          have hBw : Below W.heap.size W w9 := bel_tr hb05 hb05.size hB9
          have hb9' : Rd w9 A'' (ints b) := hbst5.bel hB9
          by_cases hlen : b.length < f.length
          · have H1 : Hid (f = tried l F g (k + 1)) := by show _ = _; rw [HT0.out, ← HBE.out]; unfold better; rw [if_pos hlen]
            have g1 : (b.length : Int) < (f.length : Int) := by omega
            clear HT0 HBE
            generalize hfl : f.length = fl at g1 ⊢
            generalize hbl : b.length = bl at g1 ⊢
            have HFL := hide hfl
            clear hfl hbl hlen
            go_wp2
            go_roundw
            case rel => exact ⟨k + 1, by omega, by go_num, hBw, f, A9, c9, by rw [HFL.out], hd9, H1⟩
            case measure => simp [intOf]; omega
          · have H1 : Hid (b = tried l F g (k + 1)) := by show _ = _; rw [HT0.out, ← HBE.out]; unfold better; rw [if_neg hlen]
            have g1 : ¬ (b.length : Int) < (f.length : Int) := by omega
            have g2 : (f.length : Int) ≤ (b.length : Int) := by omega
            clear HT0 HBE
            generalize hfl : f.length = fl at g1 g2 ⊢
            generalize hbl : b.length = bl at g1 g2 ⊢
            have HBL := hide hbl
            clear hfl hbl hlen
            go_wp2
            go_roundw
            case rel => exact ⟨k + 1, by omega, by go_num, hBw, b, A'', c'', by rw [HBL.out], hb9', H1⟩
            case measure => simp [intOf]; omega
        · go_simp
          obtain ⟨w6, hw6⟩ : ∃ w6, (w5.alloc (.cells #[.int .i64 (k : Int)] 3)).drew = w6 := ⟨_, rfl⟩
          have hb6 : Below w5.heap.size w5 w6 := by rw [← hw6]; exact (alloc_bel _ _).drew
          have hnew0 : Blk w6 w5.heap.size 3 [.int .i64 (k : Int)] := by rw [← hw6]; exact (Blk.new w5 _ [_]).drewN 1
          have hS6 := kp hb6
          rw [hw6]
          clear hw6
          try dsimp only
          refine hK _ _ hS6 ?_
          clear hK K hSd
          refine nextH (i := 2) (by kernel_rfl) rfl (fun K hK => ?_)
          go_simp
          refine (cloneOwn_c g A' c' w6 (hs5.bel hb6) (by omega)).mono ?_
          rintro e_ w7 ⟨⟨v6, rfl, own7⟩, hb7⟩
          try dsimp only
          have hnew := hnew0.bel hb7
          have hB7 : Below w5.heap.size w5 w7 := bel_tr hb6 hb6.size hb7
          have hS7 := kp hB7
          refine hK _ _ hS7 ?_
          clear hK K
          have hba1 : w5.heap.size ≤ w6.heap.size := hb6.size
          have hba2 : w6.heap.size ≤ w7.heap.size := hb7.size
          refine nextH (i := 5) (by kernel_rfl) rfl (fun K hK => ?_)
          refine step_append_two w7 (by rfl) _ _ _ (by rfl) w6.heap.size 3 i0 _ 1 8 Try.underlying47 hi iz0 iz1 iz2 rfl (by decide) _ g.length (ints g) (by rfl) own7 ⟨_, 0, none⟩ 1 1 [.int .i64 (k : Int)] (by rfl) rfl (World.news_of_block hnew) (by simp [Value.oneCell']) (by decide) (by unfold maxLen; omega) (by omega) (by omega) ?_
          intro v8 w8 own8 hg8 hcase
          obtain ⟨B', cb', rfl⟩ := ownsRow_slice own8
          have hB8 : Below w5.heap.size w5 w8 := Below.grown hB7 hg8 (hB7).size (fun j hj => by have := own7.lt j hj; omega)
          have hS8 := kp hB8
          simp only [Act.put, List.getElem_toArray, List.getElem_cons_zero, List.getElem_cons_succ, List.setIfInBounds_toArray, List.set_cons_zero, List.set_cons_succ]
          refine hK _ _ hS8 ?_
          clear hK K
          have HI := hide (HIK.out B' cb' w8 (by rw [ints_append]; exact Rd.of_own own8) (hr5.bel hB8))
          clear hcase hg8 own8
          generalize F k = f at HI HT0
          refine nextH (i := 6) (by kernel_rfl) rfl (fun K hK => ?_)
          go_simp
          refine HI.out.mono ?_
          rintro e w9 ⟨⟨A9, c9, rfl, hd9⟩, hb9⟩
          try dsimp only
          have hB9 := bel_tr hB8 hB8.size hb9
          have hS9 := kp hB9
          refine hK _ _ hS9 ?_
          clear hK K
          refine nextH (i := 7) (by kernel_rfl) rfl (fun K hK => ?_)
          go_simp
          refine hK _ _ hS9 ?_
          clear hK K
          refine wpAnyH_done (by kernel_rfl) ?_ _
          have hBw : Below W.heap.size W w9 := bel_tr hb05 hb05.size hB9
          have hb9' : Rd w9 A'' (ints b) := hbst5.bel hB9
          by_cases hlen : b.length < f.length
          · have H1 : Hid (f = tried l F g (k + 1)) := by show _ = _; rw [HT0.out, ← HBE.out]; unfold better; rw [if_pos hlen]
            have g1 : (b.length : Int) < (f.length : Int) := by omega
            clear HT0 HBE
            generalize hfl : f.length = fl at g1 ⊢
            generalize hbl : b.length = bl at g1 ⊢
            have HFL := hide hfl
            clear hfl hbl hlen
            go_wp2
            go_roundw
            case rel => exact ⟨k + 1, by omega, by go_num, hBw, f, A9, c9, by rw [HFL.out], hd9, H1⟩
            case measure => simp [intOf]; omega
          · have H1 : Hid (b = tried l F g (k + 1)) := by show _ = _; rw [HT0.out, ← HBE.out]; unfold better; rw [if_neg hlen]
            have g1 : ¬ (b.length : Int) < (f.length : Int) := by omega
            have g2 : (f.length : Int) ≤ (b.length : Int) := by omega
            clear HT0 HBE
            generalize hfl : f.length = fl at g1 g2 ⊢
            generalize hbl : b.length = bl at g1 g2 ⊢
            have HBL := hide hbl
            clear hfl hbl hlen
            go_wp2
            go_roundw
            case rel => exact ⟨k + 1, by omega, by go_num, hBw, b, A'', c'', by rw [HBL.out], hb9', H1⟩
            case measure => simp [intOf]; omega
    · obtain rfl : k = n := by omega
      have HL : Hid (tried l F g k = b) := HBE.out.symm
      go_wp2
      rw [HL.out]
      go_ret
      exact ⟨⟨A'', c'', rfl, hbst⟩, (by first | exact bel_tr hB (by omega) hbr | (rw [hp]; exact bel_tr hB (by omega) hbr))⟩
end Go.Proofs.Ytmdmkmfemhkfgaa

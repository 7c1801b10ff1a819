/- Contracts: the reference's Put, and its errors. -/
import Derived.Test.YtohdjhdkmdhhcaaE80
set_option linter.unusedSimpArgs false
set_option linter.unusedVariables false
set_option linter.unusedSimpArgs false
set_option linter.unusedVariables false
namespace Go.Proofs.Ytohdjhdkmdhhcaa
open Go.RowKit
set_option maxRecDepth 100000

set_option maxHeartbeats 8000000 in
theorem refPut_c (q : List IT) (n : ByteArray) (p s t cp : Int) (A : Option Addr) (c : Nat) (w : World) (hr : Rd w A (its q)) (hl : q.length ≤ 1000) (hc : q.length ≤ c) (hn : ∀ k (h : k < q.length), q[k].1.size ≤ 1000) (hns : n.size ≤ 1000) (he : putE q (n, p, s, t) cp = 0) :
    Calls Try.prog 18 #[.slice A q.length c, .agg #[.string n, .int .i64 p, .int .i64 s, .int .i64 t], .int .i64 cp] w fun r w' => (∃ A' c' B' d', r = .returned (.tuple #[.slice A' (putL q (n, p, s, t) cp).1.length c', .slice B' (putL q (n, p, s, t) cp).2.length d']) ∧ Rd w' A' (its (putL q (n, p, s, t) cp).1) ∧ Rd w' B' (txs (putL q (n, p, s, t) cp).2)) ∧ Below w.heap.size w w' := by
  have hok := putE_zero he
  obtain ⟨i0, hi, iz0, iz1, iz2⟩ := info_parts Try.infoT
  obtain ⟨j0, hj, jz0, jz1, jz2⟩ := info_parts Try.infoStr
  have hX := Blk.new w 37 [.string n, .int .i64 p, .int .i64 s, .int .i64 t]
  have hbel := alloc_bel w (.cells #[.string n, .int .i64 p, .int .i64 s, .int .i64 t] 37)
  have hrW := hr.bel hbel
  generalize hW : w.alloc (.cells #[.string n, .int .i64 p, .int .i64 s, .int .i64 t] 37) = w2 at hX hbel hrW
  have HW := hide hW
  clear hW
  have hzW := hX.lt
  have HR : True := trivial
  have hB2 := hbel
  have hr2 := hrW
  have hX2 := hX
  have hz2 := hX2.lt
  have hB2s : w.heap.size ≤ w2.heap.size := by omega
  clear hX hrW hr he hbel
  go_enter Try.func18, Try.ntmps18
  have d0 := hX2.cell 0; have d1 := hX2.cell 1; have d2 := hX2.cell 2; have d3 := hX2.cell 3; simp only [List.getElem?_cons_zero, List.getElem?_cons_succ] at d0 d1 d2 d3
  go_upto_region 1 with fail
  rw [HW.out]
  go_cut [8] from 12 to 16 (fun v wx => ∃ g cap : Nat, v = .slice (some ⟨g, 0, none⟩) (q ++ [(n, p, s, t)]).length cap ∧ wx.ownsRow w.heap.size 37 4 (.slice (some ⟨g, 0, none⟩) (q ++ [(n, p, s, t)]).length cap) (q ++ [(n, p, s, t)]).length (its (q ++ [(n, p, s, t)])) ∧ Below w.heap.size w wx)
  case first =>
    have hSd : (∀ b o, b < w2.heap.size → w2.drew.cell? ⟨b, o, none⟩ = w2.cell? ⟨b, o, none⟩) ∧ Below w2.heap.size w2 w2.drew := kp (Below.refl _ _).drew
    refine wp_region_held (S := fun w' => (∀ b o, b < w2.heap.size → w'.cell? ⟨b, o, none⟩ = w2.cell? ⟨b, o, none⟩) ∧ Below w2.heap.size w2 w') (by kernel_rfl) ?_
    change wpAnyH _ _ _ _ _ _ _ _ w2.drew
    refine wpAnyH_take (i := 0) (v := ?_) rfl (by kernel_rfl) (by kernel_rfl) (by kernel_rfl) (fun _ _ _ h => h) (Or.inl ⟨by kernel_rfl, ?_⟩) (by assumption) ?_
    rotate_left 1
    · (intro w hSw; obtain ⟨hk1, hk2⟩ := hSw; go_simp <;> with_reducible rfl)
    simp only [Act.put, List.getElem_toArray, List.getElem_cons_zero, List.setIfInBounds_toArray, List.set_cons_zero, List.set_cons_succ]
    refine wpAnyH_take (i := 2) (v := ?_) rfl (by kernel_rfl) (by kernel_rfl) (by kernel_rfl) (fun _ _ _ h => h) (Or.inl ⟨by kernel_rfl, ?_⟩) (by assumption) ?_
    rotate_left 1
    · (intro w hSw; obtain ⟨hk1, hk2⟩ := hSw; go_simp <;> with_reducible rfl)
    simp only [Act.put, List.getElem_toArray, List.getElem_cons_zero, List.getElem_cons_succ, List.setIfInBounds_toArray, List.set_cons_zero, List.set_cons_succ]
    refine nextH2 (i := 1) (j := 3) (by kernel_rfl) rfl rfl (fun K hK => ?_) (fun K hK => ?_)
    · go_simp
      refine (copyItemsOwn_c q A c _ (hr2.bel (Below.refl _ _).drew) (by omega)).mono ?_
      rintro e_ w6 ⟨⟨A6, c6, rfl, own6⟩, hb6⟩
      try dsimp only
      have hB6 : Below w2.heap.size w2 w6 := bel_tr hSd.2 hSd.2.size hb6
      have hS6 := kp hB6
      refine hK _ _ hS6 ?_
      clear hK K hSd
      refine nextH (i := 3) (by kernel_rfl) rfl (fun K hK => ?_)
      go_simp
      obtain ⟨w7, hw7⟩ : ∃ w7, w6.alloc (.cells #[.string n, .int .i64 p, .int .i64 s, .int .i64 t] 37) = w7 := ⟨_, rfl⟩
      have hb7 : Below w6.heap.size w6 w7 := by rw [← hw7]; exact alloc_bel _ _
      have hnew : Blk w7 w6.heap.size 37 [.string n, .int .i64 p, .int .i64 s, .int .i64 t] := by rw [← hw7]; exact Blk.new w6 _ [_, _, _, _]
      have hB7 := bel_tr hB6 hB6.size hb7
      have hS7 := kp hB7
      rw [hw7]
      clear hw7
      try dsimp only
      refine hK _ _ hS7 ?_
      clear hK K
      have hba1 : w2.heap.size ≤ w2.heap.size := Nat.le_refl _
      have hba2 : w2.heap.size ≤ w7.heap.size := hB7.size
      have own7 : w7.ownsRow w2.heap.size 37 4 (.slice A6 q.length c6) q.length (its q) := ownsRow_bel own6 hb7
      refine nextH (i := 4) (by kernel_rfl) rfl (fun K hK => ?_)
      refine step_append_lies w7 (by rfl) _ _ _ (by rfl) w2.heap.size 37 i0 _ 4 40 Try.underlying22 hi iz0 iz1 iz2 rfl (by decide) _ q.length (its q) (by rfl) own7 ⟨_, 0, none⟩ 1 1 [.string n, .int .i64 p, .int .i64 s, .int .i64 t] (by rfl) rfl (World.news_of_block hnew) (by simp [Value.oneCell']) (by decide) (by unfold maxLen; omega) (by omega) (by omega) _ rfl ?_
      intro g8 cap8 w8 own8 hg8 _ hz8
      have hB8 : Below w2.heap.size w2 w8 := Below.grown hB7 hg8 (hB7).size (fun j hj => by have := own7.lt j hj; omega)
      have hS8 := kp hB8
      simp only [Act.put, List.getElem_toArray, List.getElem_cons_zero, List.getElem_cons_succ, List.setIfInBounds_toArray, List.set_cons_zero, List.set_cons_succ]
      refine hK _ _ hS8 ?_
      clear hK K
      refine nextH (i := 5) (by kernel_rfl) rfl (fun K hK => ?_)
      go_simp
      refine hK _ _ hS8 ?_
      clear hK K
      refine wpAnyH_done (by kernel_rfl) ?_ _
      have own9 : w8.ownsRow w.heap.size 37 4 (.slice (some ⟨g8, 0, none⟩) (q ++ [(n, p, s, t)]).length cap8) (q ++ [(n, p, s, t)]).length (its (q ++ [(n, p, s, t)])) := by
        rw [its_append, List.length_append, List.length_singleton]
        exact own_mono own8 (by omega)
      go_wp2
      go_meet
      exact ⟨g8, cap8, by rw [List.length_append, List.length_singleton], own9, bel_tr hB2 hB2s hB8⟩
    · go_simp
      obtain ⟨w6, hw6⟩ : ∃ w6, (w2.alloc (.cells #[.string n, .int .i64 p, .int .i64 s, .int .i64 t] 37)).drew = w6 := ⟨_, rfl⟩
      have hb6 : Below w2.heap.size w2 w6 := by rw [← hw6]; exact (alloc_bel _ _).drew
      have hnew0 : Blk w6 w2.heap.size 37 [.string n, .int .i64 p, .int .i64 s, .int .i64 t] := by rw [← hw6]; exact (Blk.new w2 _ [_, _, _, _]).drewN 1
      have hS6 := kp hb6
      rw [hw6]
      clear hw6
      try dsimp only
      refine hK _ _ hS6 ?_
      clear hK K hSd
      refine nextH (i := 1) (by kernel_rfl) rfl (fun K hK => ?_)
      go_simp
      refine (copyItemsOwn_c q A c w6 (hr2.bel hb6) (by omega)).mono ?_
      rintro e_ w7 ⟨⟨A6, c6, rfl, own7⟩, hb7⟩
      try dsimp only
      have hnew := hnew0.bel hb7
      have hB7 : Below w2.heap.size w2 w7 := bel_tr hb6 hb6.size hb7
      have hS7 := kp hB7
      refine hK _ _ hS7 ?_
      clear hK K
      have hba1 : w2.heap.size ≤ w6.heap.size := hb6.size
      have hba2 : w6.heap.size ≤ w7.heap.size := hb7.size
      refine nextH (i := 4) (by kernel_rfl) rfl (fun K hK => ?_)
      refine step_append_lies w7 (by rfl) _ _ _ (by rfl) w6.heap.size 37 i0 _ 4 40 Try.underlying22 hi iz0 iz1 iz2 rfl (by decide) _ q.length (its q) (by rfl) own7 ⟨_, 0, none⟩ 1 1 [.string n, .int .i64 p, .int .i64 s, .int .i64 t] (by rfl) rfl (World.news_of_block hnew) (by simp [Value.oneCell']) (by decide) (by unfold maxLen; omega) (by omega) (by omega) _ rfl ?_
      intro g8 cap8 w8 own8 hg8 _ hz8
      have hB8 : Below w2.heap.size w2 w8 := Below.grown hB7 hg8 (hB7).size (fun j hj => by have := own7.lt j hj; omega)
      have hS8 := kp hB8
      simp only [Act.put, List.getElem_toArray, List.getElem_cons_zero, List.getElem_cons_succ, List.setIfInBounds_toArray, List.set_cons_zero, List.set_cons_succ]
      refine hK _ _ hS8 ?_
      clear hK K
      refine nextH (i := 5) (by kernel_rfl) rfl (fun K hK => ?_)
      go_simp
      refine hK _ _ hS8 ?_
      clear hK K
      refine wpAnyH_done (by kernel_rfl) ?_ _
      have own9 : w8.ownsRow w.heap.size 37 4 (.slice (some ⟨g8, 0, none⟩) (q ++ [(n, p, s, t)]).length cap8) (q ++ [(n, p, s, t)]).length (its (q ++ [(n, p, s, t)])) := by
        rw [its_append, List.length_append, List.length_singleton]
        exact own_mono own8 (by omega)
      go_wp2
      go_meet
      exact ⟨g8, cap8, by rw [List.length_append, List.length_singleton], own9, bel_tr hB2 hB2s hB8⟩
  obtain ⟨g, cap, rfl, own, hBw⟩ := hcut
  have hlen1 : (q ++ [(n, p, s, t)]).length ≤ 20 := by have := hok.len; rw [List.length_append, List.length_singleton]; omega
  have hsm := small_all hok.que hok.item
  have HP : Hid (dropF cp (q ++ [(n, p, s, t)]).length (q ++ [(n, p, s, t)]) [] = putL q (n, p, s, t) cp) := by show _ = _; unfold putL; rw [List.length_append, List.length_singleton]
  have hc0 := hok.c0
  have hc1 := hok.c1
  clear hok HR hX2 hr2 d0 d1 d2 d3 hB2 hz2 hn
  obtain ⟨PL, hPL⟩ : ∃ PL, putL q (n, p, s, t) cp = PL := ⟨_, rfl⟩
  rw [hPL] at HP
  have HPL := hide hPL
  clear hPL
  generalize q ++ [(n, p, s, t)] = q1 at own hlen1 hsm HP ⊢
  go_wp2
  go_loopw [8, 9] (fun a v wr => ∃ (q' : List IT) (nm : List ByteArray) (A1 : Option Addr) (cap' : Nat) (B' : Option Addr) (d' : Nat), a = .slice A1 q'.length cap' ∧ v = .slice B' nm.length d' ∧ wr.ownsRow w.heap.size 37 4 (.slice A1 q'.length cap') q'.length (its q') ∧ wr.ownsRow w.heap.size 9 1 (.slice B' nm.length d') nm.length (txs nm) ∧ Below w.heap.size w wr ∧ Hid (q'.length + nm.length ≤ 20 ∧ SmallS q' ∧ dropF cp q'.length q' nm = PL)) (fun a _ _ => slcLen a)
  case atStart => exact ⟨q1, [], some ⟨g, 0, none⟩, cap, none, 0, rfl, rfl, own, World.ownsRow_nil _ _ _ _, hBw, by simpa using hlen1, hsm, HP.out⟩
  case round =>
    obtain ⟨q', nm, A1, cap', B', d', rfl, rfl, own1, own2, hB, hI⟩ := hrel
    clear own hBw hlen1 hsm HP
    obtain ⟨hle, hsm, hd⟩ := hI.out
    clear hI
    have hBs := hB.size
    have hrd := Rd.of_own own1
    have HSZ := hide (total_c q' _ cap' wr hrd (by omega) hsm)
    by_cases hgo : cp < sizeL q'
    · obtain ⟨hp, heq⟩ := dropF_go (n := nm) hc0 hgo
      obtain ⟨g', eA⟩ : ∃ g, A1 = some ⟨g, 0, none⟩ := by obtain ⟨g, _, e, _, _⟩ := own1.form hp; injection e with e; exact ⟨g, e⟩
      subst eA
      obtain ⟨hlo, hlo2, hlt⟩ := lastO_at hp
      have HD := hide (heq.symm.trans hd)
      have hel : (q'.eraseIdx (lastO q')).length = q'.length - 1 := List.length_eraseIdx_of_lt hlt
      have HSM := hide (sub_small (List.eraseIdx_sublist q' (lastO q')) hsm)
      rw [show (q'.getD (lastO q') it0).1 = q'[lastO q'].1 by rw [List.getD, List.getElem?_eq_getElem hlt]; rfl] at HD
      clear heq
      generalize lastO q' = i at hlt hlo2 hel HD HSM
      have hgo' : decide (cp < sizeL q') = true := decide_eq_true hgo
      have HO := hide (fun W (h : Rd W (some ⟨g', 0, none⟩) (its q')) => refOrderOf_c q' _ cap' W h (by omega))
      obtain ⟨m, hm⟩ : ∃ m, q'.length - 1 = m := ⟨_, rfl⟩
      simp only [hm] at hlo hlo2
      have hmq : m < (ordI q').length := by rw [ordI_len]; omega
      have hoi : (ordI q')[m] = (i : Int) := by rw [(ordI_at q' hmq).2.1, hlo2]
      have k1 : (0 : Int) ≤ (q'.length : Int) - 1 := by omega
      have k2 : (q'.length : Int) - 1 < (q'.length : Int) := by omega
      have k3 : ((q'.length : Int) - 1).toNat = m := by omega
      have k4 : IntKind.i64.wrap ((q'.length : Int) - 1) = (q'.length : Int) - 1 := by rw [IntKind.wrap_i64]; omega
      have k5 : IntKind.i64.wrap ((i : Int) + 1) = (i : Int) + 1 := by rw [IntKind.wrap_i64]; omega
      have k6 : (i : Int) < (q'.length : Int) := by omega
      have HEL := hide hel
      have HM := hide hm
      clear hel hm hlo hlo2 hd
      go_upto_region 5 with (first
        | (go_at_call 46; refine HSZ.out.mono ?_; rintro e_ w_ ⟨rfl, rfl⟩)
        | (go_at_call 14; refine (HO.out _ hrd).mono ?_; rintro e_ w4 ⟨⟨A4, c4, rfl, hx4, hc4⟩, hb4⟩))
      have hb34 : Below wr.heap.size wr w4 := hb4
      have own3 := ownsRow_bel own1 hb34
      have own4 := ownsRow_bel own2 hb34
      have hB4 := bel_tr hB hBs hb34
      have hrd4 := hrd.bel hb34
      obtain ⟨b4, o4, rfl, hb4', x0⟩ := hx4.int_at hmq
      rw [hoi] at x0
      obtain ⟨_, _, e', hbg, y0, _⟩ := hrd4.it_at hlt
      injection e' with e'
      injection e' with eb eo
      subst eb eo
      rw [Nat.zero_add] at y0
      generalize q'[i].1 = nam at y0 HD
      clear hb4 hb34 hrd hrd4 own1 own2 HSZ HO hx4 hoi hmq
      go_upto_region 7 with (at_builtin; refine wpList_append_own _ rfl _ _ 38 rfl w.heap.size 9 j0 _ 1 16 Try.underlying38 hj jz0 jz1 jz2 rfl (by decide) _ nm.length (txs nm) rfl (own4.alloc _) ⟨w4.heap.size, 0, none⟩ 1 1 [.string nam] rfl rfl (World.news_of_block (heap_alloc_new w4 _)) (by simp [Value.oneCell']) (by unfold maxLen; omega) (by omega) (by have := hB4.size; simp; omega) ?_; intro v8 w8 own8 hg8 _)
      obtain ⟨B8, d8, rfl⟩ := ownsRow_slice own8
      have own5 := (ownsRow_bel own3 (alloc_bel w4 (.cells #[.string nam] 9))).kept hg8 (by
        rcases own_ne (ownsRow_bel own3 (alloc_bel w4 (.cells #[.string nam] 9))) (own4.alloc (.cells #[.string nam] 9)) (by decide) with h | h
        · exact .inl h
        · exact .inr h)
      have hB8 : Below w.heap.size w w8 := (bel_alloc hB4 hB4.size _).grown hg8 (by have := hB4.size; simp; omega) (fun j hj => (own4.lt j hj).1)
      have hcq : q'.length ≤ cap' := own_capT own5
      have hrd5 := Rd.of_own own5
      have hAd : ∃ Ad : Addr, (if cap' = i + 1 then some (⟨g', 0, none⟩ : Addr) else some ⟨g', (i + 1) * 4, none⟩) = some Ad ∧ Rd w8 (some Ad) (its (q'.drop (i + 1))) := by
        obtain ⟨b0, o0, e0, hz0, hcell⟩ := hrd5 (by intro e; have := congrArg List.length e; rw [its_length, List.length_nil] at this; omega)
        injection e0 with e0
        injection e0 with eb eo
        subst eb eo
        by_cases hc1 : cap' = i + 1
        · refine ⟨⟨g', 0, none⟩, by simp [hc1], ?_⟩
          have : q'.drop (i + 1) = [] := List.drop_eq_nil_of_le (by omega)
          rw [this]
          exact Rd.nil _ _
        · refine ⟨⟨g', (i + 1) * 4, none⟩, by simp [hc1], fun _ => ⟨g', (i + 1) * 4, rfl, hz0, fun j u hu => ?_⟩⟩
          have e2 : its q' = its (q'.take (i + 1)) ++ its (q'.drop (i + 1)) := by rw [← its_append, List.take_append_drop]
          have h3 := hcell ((i + 1) * 4 + j) u (by
            rw [e2, List.getElem?_append_right (by rw [its_length, List.length_take]; omega), its_length, List.length_take]
            rw [show (i + 1) * 4 + j - min (i + 1) q'.length * 4 = j by omega]
            exact hu)
          rwa [Nat.zero_add] at h3
      obtain ⟨Ad, hAd, hrA⟩ := hAd
      have hrT := hrd5.takeI i
      have hCI := fun W (h : Rd W (some ⟨g', 0, none⟩) (its (q'.take i))) => copyItemsOwn_c (q'.take i) (some ⟨g', 0, none⟩) cap' W h (by rw [List.length_take]; omega)
      rw [List.length_take_of_le (by omega)] at hCI
      have HCI := hide hCI
      obtain ⟨j, hj⟩ : ∃ j, i + 1 = j := ⟨_, rfl⟩
      rw [hj] at hAd hrA
      have HJ := hide hj
      have HIT : Hid (its (q'.take i) ++ its (q'.drop j) = its (q'.eraseIdx i)) := by show _ = _; rw [← hj]; exact (eraseI_its q' i hlt).symm
      have hjl : j ≤ q'.length := by omega
      have hjc : j ≤ cap' := by omega
      have hic : i ≤ cap' := by omega
      have k7 : (i : Int) + 1 ≤ (q'.length : Int) := by omega
      have k8 : ((i : Int) + 1).toNat = j := by omega
      have k9 : (0 : Int) ≤ (i : Int) + 1 := by omega
      have k10 : (i : Int) + 1 ≤ (cap' : Int) := by omega
      have k11 : (i : Int) ≤ (cap' : Int) := by omega
      have hzg : g' < w8.heap.size := ((own5.lt g' rfl).2)
      clear own3 own4 hB4 hg8 hCI hrd5 hj hjl
      have hSd : (∀ b o, b < w8.heap.size → w8.drew.cell? ⟨b, o, none⟩ = w8.cell? ⟨b, o, none⟩) ∧ Below w8.heap.size w8 w8.drew := kp (Below.refl _ _).drew
      refine wp_region_held (S := fun w' => (∀ b o, b < w8.heap.size → w'.cell? ⟨b, o, none⟩ = w8.cell? ⟨b, o, none⟩) ∧ Below w8.heap.size w8 w') (by kernel_rfl) ?_
      change wpAnyH _ _ _ _ _ _ _ _ w8.drew
      refine wpAnyH_take (i := 0) (v := ?_) rfl (by kernel_rfl) (by kernel_rfl) (by kernel_rfl) (fun _ _ _ h => h) (Or.inl ⟨by kernel_rfl, ?_⟩) (by assumption) ?_
      rotate_left 1
      · (intro w hSw; obtain ⟨hk1, hk2⟩ := hSw; go_simp <;> with_reducible rfl)
      simp only [Act.put, List.getElem_toArray, List.getElem_cons_zero, List.setIfInBounds_toArray, List.set_cons_zero, List.set_cons_succ]
      refine wpAnyH_take (i := 1) (v := ?_) rfl (by kernel_rfl) (by kernel_rfl) (by kernel_rfl) (fun _ _ _ h => h) (Or.inl ⟨by kernel_rfl, ?_⟩) (by assumption) ?_
      rotate_left 1
      · (intro w hSw; obtain ⟨hk1, hk2⟩ := hSw; go_simp <;> with_reducible rfl)
      simp only [Act.put, List.getElem_toArray, List.getElem_cons_zero, List.getElem_cons_succ, List.setIfInBounds_toArray, List.set_cons_zero, List.set_cons_succ]
      refine wpAnyH_take (i := 2) (v := ?_) rfl (by kernel_rfl) (by kernel_rfl) (by kernel_rfl) (fun _ _ _ h => h) (Or.inl ⟨by kernel_rfl, ?_⟩) (by assumption) ?_
      rotate_left 1
      · (intro w hSw; obtain ⟨hk1, hk2⟩ := hSw; go_simp <;> with_reducible rfl)
      simp only [Act.put, List.getElem_toArray, List.getElem_cons_zero, List.getElem_cons_succ, List.setIfInBounds_toArray, List.set_cons_zero, List.set_cons_succ]
      refine wpAnyH_take (i := 4) (v := ?_) rfl (by kernel_rfl) (by kernel_rfl) (by kernel_rfl) (fun _ _ _ h => h) (Or.inl ⟨by kernel_rfl, ?_⟩) (by assumption) ?_
      rotate_left 1
      · (intro w hSw; obtain ⟨hk1, hk2⟩ := hSw; go_simp <;> with_reducible rfl)
      simp only [Act.put, List.getElem_toArray, List.getElem_cons_zero, List.getElem_cons_succ, List.setIfInBounds_toArray, List.set_cons_zero, List.set_cons_succ]
      refine wpAnyH_take (i := 5) (v := ?_) rfl (by kernel_rfl) (by kernel_rfl) (by kernel_rfl) (fun _ _ _ h => h) (Or.inl ⟨by kernel_rfl, ?_⟩) (by assumption) ?_
      rotate_left 1
      · (intro w hSw; obtain ⟨hk1, hk2⟩ := hSw; go_simp <;> with_reducible rfl)
      simp only [Act.put, List.getElem_toArray, List.getElem_cons_zero, List.getElem_cons_succ, List.setIfInBounds_toArray, List.set_cons_zero, List.set_cons_succ]
      refine wpAnyH_take (i := 6) (v := ?_) rfl (by kernel_rfl) (by kernel_rfl) (by kernel_rfl) (fun _ _ _ h => h) (Or.inl ⟨by kernel_rfl, ?_⟩) (by assumption) ?_
      rotate_left 1
      · (intro w hSw; obtain ⟨hk1, hk2⟩ := hSw; go_simp <;> with_reducible rfl)
      simp only [Act.put, List.getElem_toArray, List.getElem_cons_zero, List.getElem_cons_succ, List.setIfInBounds_toArray, List.set_cons_zero, List.set_cons_succ]
      refine wpAnyH_take (i := 7) (v := ?_) rfl (by kernel_rfl) (by kernel_rfl) (by kernel_rfl) (fun _ _ _ h => h) (Or.inl ⟨by kernel_rfl, ?_⟩) (by assumption) ?_
      rotate_left 1
      · (intro w hSw; obtain ⟨hk1, hk2⟩ := hSw; go_simp <;> with_reducible rfl)
      simp only [Act.put, List.getElem_toArray, List.getElem_cons_zero, List.getElem_cons_succ, List.setIfInBounds_toArray, List.set_cons_zero, List.set_cons_succ]
      refine nextH (i := 3) (by kernel_rfl) rfl (fun K hK => ?_)
      go_simp
      refine (HCI.out _ (hrT.bel hSd.2)).mono ?_
      rintro e_ w9 ⟨⟨A9, c9, rfl, own9⟩, hb9⟩
      have hB9 : Below w8.heap.size w8 w9 := bel_tr hSd.2 hSd.2.size hb9
      have hS9 := kp hB9
      try dsimp only
      refine hK _ _ hS9 ?_
      clear hK K hSd
      have hz9 := hB9.size
      refine nextH (i := 8) (by kernel_rfl) rfl (fun K hK => ?_)
      refine step_append_rd w9 (by rfl) _ _ _ (by rfl) w8.heap.size 37 i0 _ 4 40 Try.underlying22 hi iz0 iz1 iz2 rfl (by decide) _ i (its (q'.take i)) (by rfl) own9 (some Ad) (q'.length - j) (cap' - j) (its (q'.drop j)) (by rfl) (by rw [its_length, List.length_drop]) (hrA.bel hB9) (its_one _) (by unfold maxLen; omega) (by omega) (by omega) ?_
      intro v10 w10 own10 hg10
      obtain ⟨A10, c10, rfl⟩ := ownsRow_slice own10
      have hB10 : Below w8.heap.size w8 w10 := hB9.grown hg10 hz9 (fun k hk => (own9.lt k hk).1)
      have hS10 := kp hB10
      simp only [Act.put, List.getElem_toArray, List.getElem_cons_zero, List.getElem_cons_succ, List.setIfInBounds_toArray, List.set_cons_zero, List.set_cons_succ]
      refine hK _ _ hS10 ?_
      clear hK K
      refine nextH (i := 9) (by kernel_rfl) rfl (fun K hK => ?_)
      go_simp
      refine hK _ _ hS10 ?_
      clear hK K
      refine wpAnyH_done (by kernel_rfl) ?_ _
      have hne : i + (q'.length - j) = (q'.eraseIdx i).length := by have := HEL.out; have := HM.out; have := HJ.out; omega
      rw [hne, HIT.out] at own10
      rw [hne]
      have HNE := hide hne
      clear hne
      have hxx : txs nm ++ [.string nam] = txs (nm ++ [nam]) := by rw [txs_append]; rfl
      have own8' := ownsRow_bel own8 hB10
      rw [hxx] at own8'
      have hBA := bel_tr hB8 hB8.size hB10
      have own10' := own_mono own10 hB8.size
      go_wp2
      go_roundw
      case rel =>
        refine ⟨q'.eraseIdx i, nm ++ [nam], A10, c10, B8, d8, rfl, by rw [List.length_append, List.length_singleton], own10', by rw [List.length_append, List.length_singleton]; exact own8', hBA, ?_⟩
        refine ⟨?_, HSM.out, HD.out⟩
        have h1 := HEL.out
        have h2 := HM.out
        rw [List.length_append, List.length_singleton]
        omega
      case measure =>
        have h1 := HEL.out
        have h2 := HM.out
        simp only [slcLen]
        omega
    · have hstop := dropF_stop (n := nm) q'.length hgo
      have HV := hide (hstop.symm.trans hd)
      have hgo' : decide (cp < sizeL q') = false := decide_eq_false hgo
      clear hstop hd
      go_wp2_with (first | (go_at_call 46; refine HSZ.out.mono ?_; rintro e_ w_ ⟨rfl, rfl⟩))
      go_ret2
      rw [HPL.out, ← HV.out]
      exact ⟨⟨_, _, _, _, rfl, Rd.of_own own1, Rd.of_own own2⟩, hB⟩
end Go.Proofs.Ytohdjhdkmdhhcaa

/- Contracts: ground distances; whether a ray escapes. -/
import Derived.Test.YtkcjiejdjdcbeaaRy11
set_option linter.unusedSimpArgs false
set_option linter.unusedVariables false
set_option linter.unusedSimpArgs false
set_option linter.unusedVariables false
namespace Go.Proofs.Ytkcjiejdjdcbeaa
open Go.RowKit
set_option maxRecDepth 100000




theorem times_c (a b k : Int) (w : World) (h1 : 0 ≤ a) (h2 : a ≤ 3000000000000) (h3 : 0 ≤ b) (h4 : b ≤ 3000000000000) (k0 : 0 ≤ k) (k1 : k ≤ 10) :
    Calls Try.prog 128 #[.agg #[.int .i64 a, .int .i64 b], .int .i64 k] w fun r w' => r = .returned (.agg #[.int .i64 (k * a), .int .i64 (k * b)]) ∧ Below w.heap.size w w' := by
  have ma := mul_bd k0 k1 h1 h2
  have mb := mul_bd k0 k1 h3 h4
  obtain ⟨q, hq⟩ : ∃ q, w.heap.size = q := ⟨_, rfl⟩
  obtain ⟨p, hp⟩ : ∃ p, q + 1 = p := ⟨_, rfl⟩
  obtain ⟨w1, hw1⟩ : ∃ w1, (w.alloc (.cells #[.int .i64 a, .int .i64 b] 55)).alloc (.cells #[.int .i64 0, .int .i64 0] 55) = w1 := ⟨_, rfl⟩
  have hB0 : Below q w w1 := by rw [← hw1, ← hq]; exact bel_alloc (alloc_bel _ _) (by simp) _
  have hY : Blk w1 q 55 [.int .i64 a, .int .i64 b] := by rw [← hw1, ← hq]; exact (Blk.new w _ [_, _]).bel (alloc_bel _ _)
  have hX1 : Blk w1 p 55 [.int .i64 0, .int .i64 0] := by
    rw [← hw1, ← hp, ← hq]
    have := Blk.new (w.alloc (.cells #[.int .i64 a, .int .i64 b] 55)) 55 [.int .i64 0, .int .i64 0]
    simpa using this
  have HW := hide hw1
  clear hw1
  have y0 := hY.cell 0; have y1 := hY.cell 1; simp only [List.getElem?_cons_zero, List.getElem?_cons_succ] at y0 y1
  obtain ⟨x0, x1, f0, f1⟩ := blk_two hX1
  generalize hA : k * a = A at *
  generalize hB : k * b = B at *
  go_enter Try.func128, Try.ntmps128
  go_upto_region 1 with fail
  rw [HW.out]
  go_wp2
  obtain ⟨WE, hWE⟩ : ∃ WE, (w1.setCell ⟨p, 0, none⟩ (.int .i64 A)).setCell ⟨p, 1, none⟩ (.int .i64 B) = WE := ⟨_, rfl⟩
  rw [hWE]
  have hE : Blk WE p 55 [.int .i64 A, .int .i64 B] := by rw [← hWE]; exact (hX1.set_ 0 _).set_ 1 _
  have hBE : Below q w WE := by rw [← hWE]; exact (hB0.setCell (by show q ≤ p; omega) _).setCell (by show q ≤ p; omega) _
  clear hWE x0 x1 f0 f1 hX1 y0 y1
  have g0 := hE.cell 0; have g1 := hE.cell 1; simp only [List.getElem?_cons_zero, List.getElem?_cons_succ] at g0 g1
  exact bodyPost_ret (v := .agg #[.int .i64 A, .int .i64 B]) (by simp [results, Try.results128, go_sem, g0, g1]; try rfl) rfl ⟨rfl, by first | exact hBE | (rw [hq]; exact hBE)⟩
theorem halfQ_bd {H f n d : Int} {l : List G} (hl : l.length ≤ 1000) (hok : OkS l) (H0 : 0 ≤ H) (H1 : H ≤ 500) (h1 : 1 ≤ f) (h2 : f ≤ 3000) (n0 : 0 ≤ n) (n1 : n < d) (d1 : d ≤ 100) :
    0 ≤ (halfQ H f n d l).1 ∧ (halfQ H f n d l).1 ≤ 3000000000000 ∧ 0 ≤ (halfQ H f n d l).2 ∧ (halfQ H f n d l).2 ≤ 3000000000000 := by
  have a := sumQ_bd _ (legsL H f n d l) rfl (legs_ok hok H0 H1 h1 h2 n0 n1 d1)
  have b := legsL_len H f n d l
  have c := pasN_le f n d l
  unfold halfQ
  omega
/-- A ray's ground distance. -/
def grdQ (H f n d : Int) (l : List G) : G := (2 * (halfQ H f n d l).1, 2 * (halfQ H f n d l).2)
theorem ground_c (H f n d : Int) (A : Option Addr) (c : Nat) (l : List G) (w : World) (hr : Rd w A (gs l)) (hl : l.length ≤ 1000) (hl1 : 1 ≤ l.length) (hc : l.length ≤ c) (hok : OkS l) (H0 : 0 ≤ H) (H1 : H ≤ 500) (h1 : 1 ≤ f) (h2 : f ≤ 3000) (n0 : 0 ≤ n) (n1 : n < d) (d1 : d ≤ 100) :
    Calls Try.prog 109 #[.agg #[.int .i64 H, .slice A l.length c, .int .i64 f, .int .i64 n, .int .i64 d]] w fun r w' => r = .returned (.agg #[.int .i64 (grdQ H f n d l).1, .int .i64 (grdQ H f n d l).2]) ∧ Below w.heap.size w w' := by
  obtain ⟨b1, b2, b3, b4⟩ := halfQ_bd (H := H) (f := f) (n := n) (d := d) hl hok H0 H1 h1 h2 n0 n1 d1
  have HH := hide (fun W (h : Rd W A (gs l)) => half_c H f n d A c l W h hl hl1 hc hok H0 H1 h1 h2 n0 n1 d1)
  have HT := hide (fun W => times_c (halfQ H f n d l).1 (halfQ H f n d l).2 2 W b1 b2 b3 b4 (by omega) (by omega))
  have HG : Hid (grdQ H f n d l = (2 * (halfQ H f n d l).1, 2 * (halfQ H f n d l).2)) := rfl
  generalize grdQ H f n d l = z at HG ⊢
  have HG2 := HG.out
  subst HG2
  generalize halfQ H f n d l = y at HH HT
  obtain ⟨ya, yb⟩ := y
  dsimp only at HH HT ⊢
  generalize 2 * ya = a at HT ⊢
  generalize 2 * yb = b at HT ⊢
  clear b1 b2 b3 b4 HG
  obtain ⟨q, hq⟩ : ∃ q, w.heap.size = q := ⟨_, rfl⟩
  obtain ⟨p, hp⟩ : ∃ p, q + 1 = p := ⟨_, rfl⟩
  obtain ⟨W, hW⟩ : ∃ W, (w.alloc (.cells #[.int .i64 H, .slice A l.length c, .int .i64 f, .int .i64 n, .int .i64 d] 159)).alloc (.cells #[.int .i64 0, .int .i64 0] 55) = W := ⟨_, rfl⟩
  have hB0 : Below q w W := by rw [← hW, ← hq]; exact bel_alloc (alloc_bel _ _) (by simp) _
  have hY : Blk W q 159 [.int .i64 H, .slice A l.length c, .int .i64 f, .int .i64 n, .int .i64 d] := by rw [← hW, ← hq]; exact (Blk.new w _ [_, _, _, _, _]).bel (alloc_bel _ _)
  have hX : Blk W p 55 [.int .i64 0, .int .i64 0] := by
    rw [← hW, ← hp, ← hq]
    have := Blk.new (w.alloc (.cells #[.int .i64 H, .slice A l.length c, .int .i64 f, .int .i64 n, .int .i64 d] 159)) 55 [.int .i64 0, .int .i64 0]
    simpa using this
  have hsz : p < W.heap.size := hX.lt
  have hrW := hr.bel (show Below w.heap.size w W by rw [hq]; exact hB0)
  have HW := hide hW
  clear hW
  have y0 := hY.cell 0; have y1 := hY.cell 1; have y2 := hY.cell 2; have y3 := hY.cell 3; have y4 := hY.cell 4; simp only [List.getElem?_cons_zero, List.getElem?_cons_succ] at y0 y1 y2 y3 y4
  go_enter Try.func109, Try.ntmps109
  go_upto_region 1 with fail
  rw [HW.out]
  go_wp2_with (first
    | (go_at_call 148; refine (HH.out _ hrW).mono ?_; rintro e_ w0 ⟨rfl, hb0⟩)
    | (go_at_call 128; refine (HT.out _).mono ?_; rintro e_ w1 ⟨rfl, hb1'⟩; have hb1 := bel_tr hb0 hb0.size hb1'; have hX1 := hX.bel hb1; obtain ⟨x0, x1, f0, f1⟩ := blk_two hX1))
  obtain ⟨WE, hWE⟩ : ∃ WE, (w1.setCell ⟨p, 0, none⟩ (.int .i64 a)).setCell ⟨p, 1, none⟩ (.int .i64 b) = WE := ⟨_, rfl⟩
  rw [hWE]
  have hE : Blk WE p 55 [.int .i64 a, .int .i64 b] := by rw [← hWE]; exact (hX1.set_ 0 _).set_ 1 _
  have hBE : Below q w WE := by rw [← hWE]; exact ((bel_tr hB0 (by omega) hb1).setCell (by show q ≤ p; omega) _).setCell (by show q ≤ p; omega) _
  clear hWE x0 x1 f0 f1 hX1
  have g0 := hE.cell 0; have g1 := hE.cell 1; simp only [List.getElem?_cons_zero, List.getElem?_cons_succ] at g0 g1
  exact bodyPost_ret (v := .agg #[.int .i64 a, .int .i64 b]) (by simp [results, Try.results109, go_sem, g0, g1]; try rfl) rfl ⟨rfl, by first | exact hBE | (rw [hq]; exact hBE)⟩
theorem escapes_c (H f n d : Int) (A : Option Addr) (c : Nat) (l : List G) (w : World) (hr : Rd w A (gs l)) (hl : l.length ≤ 1000) (hok : OkS l) (h1 : 1 ≤ f) (h2 : f ≤ 3000) (n0 : 0 ≤ n) (n1 : n ≤ 100) (d0 : 1 ≤ d) (d1 : d ≤ 100) :
    Calls Try.prog 106 #[.agg #[.int .i64 H, .slice A l.length c, .int .i64 f, .int .i64 n, .int .i64 d]] w fun r w' => r = .returned (.bool (decide (pasN f n d l = l.length))) ∧ Below w.heap.size w w' := by
  have HP := hide (fun W (h : Rd W A (gs l)) => passed_c H f n d A c l W h hl hok h1 h2 n0 n1 d0 d1)
  have HD : Hid (decide (pasN f n d l = l.length) = ((pasN f n d l : Int) == (l.length : Int))) := by
    show _ = _
    rw [Bool.eq_iff_iff, decide_eq_true_iff, beq_iff_eq]
    omega
  generalize pasN f n d l = k at HP HD ⊢
  have hX := Blk.new w 159 [.int .i64 H, .slice A l.length c, .int .i64 f, .int .i64 n, .int .i64 d]
  have hbel := alloc_bel w (.cells #[.int .i64 H, .slice A l.length c, .int .i64 f, .int .i64 n, .int .i64 d] 159)
  have hrW := hr.bel hbel
  generalize hW : w.alloc (.cells #[.int .i64 H, .slice A l.length c, .int .i64 f, .int .i64 n, .int .i64 d] 159) = W at hX hbel hrW
  have HW := hide hW
  clear hW
  have c0 := hX.cell 0; have c1 := hX.cell 1; have c2 := hX.cell 2; have c3 := hX.cell 3; have c4 := hX.cell 4; simp only [List.getElem?_cons_zero, List.getElem?_cons_succ] at c0 c1 c2 c3 c4
  have hz := hX.lt
  clear hX
  go_enter Try.func106, Try.ntmps106
  go_upto_region 1 with fail
  rw [HW.out]
  have hSd : (∀ b o, b < W.heap.size → W.drew.cell? ⟨b, o, none⟩ = W.cell? ⟨b, o, none⟩) ∧ Below W.heap.size W W.drew := kp (Below.refl _ _).drew
  refine wp_region_held (S := fun w' => (∀ b o, b < W.heap.size → w'.cell? ⟨b, o, none⟩ = W.cell? ⟨b, o, none⟩) ∧ Below W.heap.size W w') (by kernel_rfl) ?_
  change wpAnyH _ _ _ _ _ _ _ _ W.drew
  refine wpAnyH_take (i := 0) (v := ?_) rfl (by kernel_rfl) (by kernel_rfl) (by kernel_rfl) (fun _ _ _ h => h) (Or.inl ⟨by kernel_rfl, ?_⟩) (by assumption) ?_
  rotate_left 1
  · (intro w hSw; obtain ⟨hk1, hk2⟩ := hSw; go_simp <;> with_reducible rfl)
  simp only [Act.put, List.getElem_toArray, List.getElem_cons_zero, List.setIfInBounds_toArray, List.set_cons_zero, List.set_cons_succ]
  refine wpAnyH_take (i := 2) (v := ?_) rfl (by kernel_rfl) (by kernel_rfl) (by kernel_rfl) (fun _ _ _ h => h) (Or.inl ⟨by kernel_rfl, ?_⟩) (by assumption) ?_
  rotate_left 1
  · (intro w hSw; obtain ⟨hk1, hk2⟩ := hSw; go_simp <;> with_reducible rfl)
  simp only [Act.put, List.getElem_toArray, List.getElem_cons_zero, List.getElem_cons_succ, List.setIfInBounds_toArray, List.set_cons_zero, List.set_cons_succ]
  refine wpAnyH_take (i := 3) (v := ?_) rfl (by kernel_rfl) (by kernel_rfl) (by kernel_rfl) (fun _ _ _ h => h) (Or.inl ⟨by kernel_rfl, ?_⟩) (by assumption) ?_
  rotate_left 1
  · (intro w hSw; obtain ⟨hk1, hk2⟩ := hSw; go_simp <;> with_reducible rfl)
  simp only [Act.put, List.getElem_toArray, List.getElem_cons_zero, List.getElem_cons_succ, List.setIfInBounds_toArray, List.set_cons_zero, List.set_cons_succ]
  refine wpAnyH_take (i := 4) (v := ?_) rfl (by kernel_rfl) (by kernel_rfl) (by kernel_rfl) (fun _ _ _ h => h) (Or.inl ⟨by kernel_rfl, ?_⟩) (by assumption) ?_
  rotate_left 1
  · (intro w hSw; obtain ⟨hk1, hk2⟩ := hSw; go_simp <;> with_reducible rfl)
  simp only [Act.put, List.getElem_toArray, List.getElem_cons_zero, List.getElem_cons_succ, List.setIfInBounds_toArray, List.set_cons_zero, List.set_cons_succ]
  refine wpAnyH_take (i := 5) (v := ?_) rfl (by kernel_rfl) (by kernel_rfl) (by kernel_rfl) (fun _ _ _ h => h) (Or.inl ⟨by kernel_rfl, ?_⟩) (by assumption) ?_
  rotate_left 1
  · (intro w hSw; obtain ⟨hk1, hk2⟩ := hSw; go_simp <;> with_reducible rfl)
  simp only [Act.put, List.getElem_toArray, List.getElem_cons_zero, List.getElem_cons_succ, List.setIfInBounds_toArray, List.set_cons_zero, List.set_cons_succ]
  refine nextH (i := 1) (by kernel_rfl) rfl (fun K hK => ?_)
  go_simp
  refine (HP.out _ (hrW.bel hSd.2)).mono ?_
  rintro e_ w1 ⟨rfl, hbx⟩
  have hS' := kp (bel_tr hSd.2 hSd.2.size hbx)
  try dsimp only
  refine hK _ _ hS' ?_
  clear hK K hSd hbx
  have hSd := hS'
  clear hS'
  refine wpAnyH_take (i := 6) (v := ?_) rfl (by kernel_rfl) (by kernel_rfl) (by kernel_rfl) (fun _ _ _ h => h) (Or.inl ⟨by kernel_rfl, ?_⟩) (by assumption) ?_
  rotate_left 1
  · (intro w hSw; obtain ⟨hk1, hk2⟩ := hSw; go_simp <;> with_reducible rfl)
  simp only [Act.put, List.getElem_toArray, List.getElem_cons_zero, List.getElem_cons_succ, List.setIfInBounds_toArray, List.set_cons_zero, List.set_cons_succ]
  refine wpAnyH_take (i := 7) (v := ?_) rfl (by kernel_rfl) (by kernel_rfl) (by kernel_rfl) (fun _ _ _ h => h) (Or.inl ⟨by kernel_rfl, ?_⟩) (by assumption) ?_
  rotate_left 1
  · (intro w hSw; obtain ⟨hk1, hk2⟩ := hSw; go_simp <;> with_reducible rfl)
  simp only [Act.put, List.getElem_toArray, List.getElem_cons_zero, List.getElem_cons_succ, List.setIfInBounds_toArray, List.set_cons_zero, List.set_cons_succ]
  refine wpAnyH_done (by kernel_rfl) ?_ _
  go_wp2
  go_ret
  exact ⟨ret_bool HD.out.symm, bel_tr hbel hbel.size hSd.2⟩
end Go.Proofs.Ytkcjiejdjdcbeaa

/- Contracts: the first two exchanges that contradict each other. -/
import Derived.Test.YtmdmkmfemhkfgaaE16
set_option linter.unusedSimpArgs false
set_option linter.unusedVariables false
set_option linter.unusedSimpArgs false
set_option linter.unusedVariables false
namespace Go.Proofs.Ytmdmkmfemhkfgaa
open Go.RowKit
set_option maxRecDepth 100000

/-- Two ranges without a common number. -/
def clash (a b : G) : Bool := decide ((comR a b).2 < (comR a b).1)
def clashAt (L : List G) (i j : Nat) : Bool := clash (L.getD i (0, 0)) (L.getD j (0, 0))
/-- The first two ranges that contradict each other, or none. -/
def First (L : List G) : Option (Nat × Nat) → Prop
  | some (i, j) => i < j ∧ j < L.length ∧ clashAt L i j = true ∧ (∀ i', i' < i → ∀ j', i' < j' → j' < L.length → clashAt L i' j' = false) ∧ (∀ j', i < j' → j' < j → clashAt L i j' = false)
  | none => ∀ i, i < L.length → ∀ j, i < j → j < L.length → clashAt L i j = false
theorem First.uniq {L : List G} {r s : Option (Nat × Nat)} (h : First L r) (k : First L s) : r = s := by
  cases r with
  | none => cases s with
    | none => rfl
    | some p =>
      obtain ⟨i, j⟩ := p
      obtain ⟨h1, h2, h3, _⟩ := k
      rw [h i (by omega) j h1 h2] at h3
      cases h3
  | some p => cases s with
    | none =>
      obtain ⟨i, j⟩ := p
      obtain ⟨h1, h2, h3, _⟩ := h
      rw [k i (by omega) j h1 h2] at h3
      cases h3
    | some q =>
      obtain ⟨i, j⟩ := p
      obtain ⟨i', j'⟩ := q
      obtain ⟨h1, h2, h3, h4, h5⟩ := h
      obtain ⟨k1, k2, k3, k4, k5⟩ := k
      have e : i = i' := by
        rcases Nat.lt_trichotomy i i' with hl | hl | hl
        · rw [k4 i hl j h1 h2] at h3; cases h3
        · exact hl
        · rw [h4 i' hl j' k1 k2] at k3; cases k3
      subst e
      have e : j = j' := by
        rcases Nat.lt_trichotomy j j' with hl | hl | hl
        · rw [k5 j h1 hl] at h3; cases h3
        · exact hl
        · rw [h5 j' k1 hl] at k3; cases k3
      rw [e]
theorem getD_at' {L : List G} {k : Nat} (h : k < L.length) : L.getD k (0, 0) = L[k] := by rw [List.getD, List.getElem?_eq_getElem h]; rfl

/-- What Contradicting answers for exchanges without an error. -/
def ConPost (L : List G) (e : Ending) : Prop :=
  (∃ i j : Nat, First L (some (i, j)) ∧ e = .returned (.tuple #[.agg #[.int .i64 (i : Int), .int .i64 (j : Int)], .int .i64 0])) ∨
  (First L none ∧ e = .returned (.tuple #[.agg #[.int .i64 0, .int .i64 0], .int .i64 12]))
theorem contradicting_bad (A : Option Addr) (c : Nat) (l : List PT) (drift T : Int) (w : World) (hr : Rd w A (ps l)) (hl : l.length ≤ 1000) (he : offE l drift T ≠ 0) :
    Calls Try.prog 21 #[.slice A l.length c, .int .i64 drift, .int .i64 T] w fun e w' => e = .returned (.tuple #[.agg #[.int .i64 0, .int .i64 0], .int .i64 (offE l drift T)]) ∧ Below w.heap.size w w' := by
  have HX := hide (fun W (h : Rd W A (ps l)) => offsetsBy_bad A c l drift T W h hl he)
  have e1 : (offE l drift T != 0) = true := by simpa using he
  clear he
  generalize offE l drift T = E at HX e1 ⊢
  have hY0 := Blk.new w 42 [.int .i64 0, .int .i64 0]
  have hB0 := alloc_bel w (.cells #[.int .i64 0, .int .i64 0] 42)
  have hr0 := hr.alloc (.cells #[.int .i64 0, .int .i64 0] 42)
  have hz := hY0.lt
  go_enter Try.func21, Try.ntmps21
  go_wp2_with (first | (go_at_call 48; refine (HX.out _ hr0).mono ?_; rintro e_ w1 ⟨rfl, hb1⟩; have hY1 := hY0.bel hb1; have f0 := hY1.frozen 0; have f1 := hY1.frozen 1; have k0 := hY1.cell 0; have k1 := hY1.cell 1; simp only [List.getElem?_cons_zero, List.getElem?_cons_succ] at k0 k1))
  have hB1 := bel_tr hB0 (by simp) hb1
  obtain ⟨WE, hWE⟩ : ∃ WE, (w1.setCell ⟨w.heap.size, 0, none⟩ (.int .i64 0)).setCell ⟨w.heap.size, 1, none⟩ (.int .i64 0) = WE := ⟨_, rfl⟩
  rw [hWE]
  have hE : Blk WE w.heap.size 42 [.int .i64 0, .int .i64 0] := by rw [← hWE]; exact (hY1.set_ 0 _).set_ 1 _
  have hBE : Below w.heap.size w WE := by rw [← hWE]; exact (hB1.setCell (Nat.le_refl _) _).setCell (Nat.le_refl _) _
  clear hWE
  have y0 := hE.cell 0; have y1 := hE.cell 1; simp only [List.getElem?_cons_zero, List.getElem?_cons_succ] at y0 y1
  refine bodyPost_ret (v := .tuple #[.agg #[.int .i64 0, .int .i64 0], .int .i64 E]) (by simp [results, Try.results21, go_sem, y0, y1]; try rfl) rfl ⟨?_, hBE⟩
  rfl
set_option maxHeartbeats 4000000 in
theorem contradicting_ok (A : Option Addr) (c : Nat) (l : List PT) (drift T : Int) (w : World) (hr : Rd w A (ps l)) (hl : l.length ≤ 1000) (he : offE l drift T = 0) :
    Calls Try.prog 21 #[.slice A l.length c, .int .i64 drift, .int .i64 T] w fun e w' => ConPost (offL l drift T) e ∧ Below w.heap.size w w' := by
  have HX := hide (fun W (h : Rd W A (ps l)) => offsetsBy_ok A c l drift T W h hl he)
  have hLl := offL_length l drift T
  clear he
  generalize offL l drift T = L at HX hLl ⊢
  have HC := hide (fun a b c d W => common_c a b c d W)
  have hY0 := Blk.new w 42 [.int .i64 0, .int .i64 0]
  have hB0 := alloc_bel w (.cells #[.int .i64 0, .int .i64 0] 42)
  have hr0 := hr.alloc (.cells #[.int .i64 0, .int .i64 0] 42)
  have hz := hY0.lt
  go_enter Try.func21, Try.ntmps21
  go_upto_region 4 with (first | (go_at_call 48; refine (HX.out _ hr0).mono ?_; rintro e_ w1 ⟨⟨A', c', rfl, hr1⟩, hb1⟩; have hY1 := hY0.bel hb1))
  have hB1 := bel_tr hB0 (by simp) hb1
  have hz1 := hY1.lt
  clear hB0 hr0 hY0 HX hr hz hb1
  go_wp2
  go_loopw [26] (fun x wr => ∃ k : Nat, k ≤ l.length ∧ x = .int .i64 k ∧ Below w1.heap.size w1 wr ∧ Hid (∀ i', i' < k → ∀ j', i' < j' → j' < L.length → clashAt L i' j' = false)) (fun x _ => l.length - (intOf x).toNat)
  case atStart => exact ⟨0, Nat.zero_le _, rfl, Below.refl _ _, fun _ h => by omega⟩
  case round =>
    obtain ⟨k, hk, rfl, hbr, h0⟩ := hrel
    have hrr := hr1.bel hbr
    have hsr := hbr.size
    have hYr := hY1.bel hbr
    by_cases hlt : k < l.length
    · obtain ⟨b, off, rfl, hblt, x0, x1⟩ := hrr.g_at (show k < L.length by omega)
      have HK : Hid (L.getD k (0, 0) = L[k]'(by omega)) := getD_at' (by omega)
      generalize hgk : L[k]'(by omega) = gk at x0 x1 HK
      obtain ⟨a1, a2⟩ := gk
      dsimp only at x0 x1
      go_upto_region 7 with fail
      obtain ⟨q, hq⟩ : ∃ q, wr.heap.size = q := ⟨_, rfl⟩
      obtain ⟨w2, hw2⟩ : ∃ W, wr.alloc (.cells #[.int .i64 a1, .int .i64 a2] 26) = W := ⟨_, rfl⟩
      have hQ2 : Blk w2 q 26 [.int .i64 a1, .int .i64 a2] := by rw [← hw2, ← hq]; exact Blk.new wr _ [_, _]
      have hb2 : Below w1.heap.size w1 w2 := by rw [← hw2]; exact bel_alloc hbr hsr _
      rw [hw2, hq]
      have hr2 := hr1.bel hb2
      have hY2 := hY1.bel hb2
      clear hw2 hgk x0 x1 hrr hYr hq
      go_wp2
      go_loopw [12] (fun x wr => ∃ m : Nat, k + 1 ≤ m ∧ m ≤ l.length ∧ x = .int .i64 m ∧ Below w2.heap.size w2 wr ∧ Hid (∀ j', k < j' → j' < m → clashAt L k j' = false)) (fun x _ => l.length - (intOf x).toNat)
      case atStart => exact ⟨k + 1, by omega, by omega, by go_num, Below.refl _ _, fun _ _ _ => by omega⟩
      case round =>
        obtain ⟨m, hm1, hm, rfl, hbi, h1⟩ := hrel
        have hri := hr2.bel hbi
        have hsi := hbi.size
        have hQi := hQ2.bel hbi
        by_cases hltm : m < l.length
        · obtain ⟨_, x0, x1⟩ := hri.g_in (show m < L.length by omega)
          have HM : Hid (L.getD m (0, 0) = L[m]'(by omega)) := getD_at' (by omega)
          have HCL : Hid (clashAt L k m = clash (a1, a2) (L[m]'(by omega))) := by show _ = _; unfold clashAt; rw [HK.out, HM.out]
          generalize hgm : L[m]'(by omega) = gm at x0 x1 HM HCL
          obtain ⟨b1, b2⟩ := gm
          dsimp only at x0 x1
          have HCM := hide (fun W => common_c a1 a2 b1 b2 W)
          have HCL2 : Hid (clashAt L k m = decide ((comR (a1, a2) (b1, b2)).2 < (comR (a1, a2) (b1, b2)).1)) := HCL.out
          generalize comR (a1, a2) (b1, b2) = o at HCM HCL2
          obtain ⟨o1, o2⟩ := o
          dsimp only at HCM HCL2
          have HEM := hide (fun W => isEmpty_c o1 o2 W)
          have i0 : (m : Int) < (l.length : Int) := by omega
          have hbw : b < wr.heap.size := World.block_lt_of_cell? _ _ x0
          have c0 := hQi.cell 0; have c1 := hQi.cell 1; simp only [List.getElem?_cons_zero, List.getElem?_cons_succ] at c0 c1
          have hzq := hQi.lt
          cases hcl : decide (o2 < o1)
          · rw [hcl] at HEM HCL2
            have H1 : Hid (∀ j', k < j' → j' < m + 1 → clashAt L k j' = false) := fun j' h2 h3 => by
              by_cases e : j' = m
              · subst e; exact HCL2.out
              · exact h1.out j' h2 (by omega)
            clear hcl hgm HCL
            go_upto_region 10 with fail
            go_region_held3 (fun w' => (∀ b o, b < wr.heap.size → w'.cell? ⟨b, o, none⟩ = wr.cell? ⟨b, o, none⟩) ∧ Below wr.heap.size wr w')
              ((refine kp ?_; (repeat' (first | with_reducible exact Below.refl _ _ | with_reducible exact HB1.out | with_reducible exact HB2.out | with_reducible refine Below.drew ?_ | with_reducible refine bel_alloc ?_ ?_ _)); all_goals (first | omega | (simp <;> omega))))
              (first
                | (go_at_call 49; refine (HCM.out _).mono ?_; rintro e_ w5 ⟨rfl, hb5⟩; have HB1 : Hid (Below wr.heap.size wr w5) := (by refine hide (Below.trans ?_ (hb5.mono ?_)); (repeat' (first | with_reducible exact Below.refl _ _ | with_reducible exact HB1.out | with_reducible exact HB2.out | with_reducible refine Below.drew ?_ | with_reducible refine bel_alloc ?_ ?_ _)); all_goals (first | omega | (simp <;> omega))); have s1 := HB1.out.size)
                | (go_at_call 50; refine (HEM.out _).mono ?_; rintro e_ w6 ⟨rfl, hb6⟩; have HB2 : Hid (Below wr.heap.size wr w6) := (by refine hide (Below.trans ?_ (hb6.mono ?_)); (repeat' (first | with_reducible exact Below.refl _ _ | with_reducible exact HB1.out | with_reducible exact HB2.out | with_reducible refine Below.drew ?_ | with_reducible refine bel_alloc ?_ ?_ _)); all_goals (first | omega | (simp <;> omega))); have s2 := HB2.out.size))
            go_wp2
            exact ⟨⟨m + 1, by omega, by omega, by go_num, hbi.trans (HB2.out.mono hsi), H1⟩, by simp [intOf]; omega⟩
          · rw [hcl] at HEM HCL2
            clear hcl hgm HCL
            have hYi := (hY2.bel hbi)
            go_upto_region 10 with fail
            go_region_held3 (fun w' => (∀ b o, b < wr.heap.size → w'.cell? ⟨b, o, none⟩ = wr.cell? ⟨b, o, none⟩) ∧ Below wr.heap.size wr w')
              ((refine kp ?_; (repeat' (first | with_reducible exact Below.refl _ _ | with_reducible exact HB1.out | with_reducible exact HB2.out | with_reducible refine Below.drew ?_ | with_reducible refine bel_alloc ?_ ?_ _)); all_goals (first | omega | (simp <;> omega))))
              (first
                | (go_at_call 49; refine (HCM.out _).mono ?_; rintro e_ w5 ⟨rfl, hb5⟩; have HB1 : Hid (Below wr.heap.size wr w5) := (by refine hide (Below.trans ?_ (hb5.mono ?_)); (repeat' (first | with_reducible exact Below.refl _ _ | with_reducible exact HB1.out | with_reducible exact HB2.out | with_reducible refine Below.drew ?_ | with_reducible refine bel_alloc ?_ ?_ _)); all_goals (first | omega | (simp <;> omega))); have s1 := HB1.out.size)
                | (go_at_call 50; refine (HEM.out _).mono ?_; rintro e_ w6 ⟨rfl, hb6⟩; have HB2 : Hid (Below wr.heap.size wr w6) := (by refine hide (Below.trans ?_ (hb6.mono ?_)); (repeat' (first | with_reducible exact Below.refl _ _ | with_reducible exact HB1.out | with_reducible exact HB2.out | with_reducible refine Below.drew ?_ | with_reducible refine bel_alloc ?_ ?_ _)); all_goals (first | omega | (simp <;> omega))); have s2 := HB2.out.size))
            have hY6 := hYi.bel HB2.out
            have hB6 : Below w.heap.size w w6 := bel_tr (bel_tr (bel_tr hB1 hB1.size hb2) (by have := hB1.size; have := hb2.size; omega) hbi) (by have := hB1.size; have := hb2.size; have := hbi.size; omega) HB2.out
            have f0 := hY6.frozen 0
            have f1 := hY6.frozen 1
            have hz6 := hY6.lt
            have v0 := hY6.cell 0; have v1 := hY6.cell 1; simp only [List.getElem?_cons_zero, List.getElem?_cons_succ] at v0 v1
            go_wp2
            obtain ⟨WE, hWE⟩ : ∃ WE, (w6.setCell ⟨w.heap.size, 0, none⟩ (.int .i64 (k : Int))).setCell ⟨w.heap.size, 1, none⟩ (.int .i64 (m : Int)) = WE := ⟨_, rfl⟩
            rw [hWE]
            have hE : Blk WE w.heap.size 42 [.int .i64 (k : Int), .int .i64 (m : Int)] := by rw [← hWE]; exact (hY6.set_ 0 _).set_ 1 _
            have hBE : Below w.heap.size w WE := by rw [← hWE]; exact (hB6.setCell (Nat.le_refl _) _).setCell (Nat.le_refl _) _
            clear hWE
            have y0 := hE.cell 0; have y1 := hE.cell 1; simp only [List.getElem?_cons_zero, List.getElem?_cons_succ] at y0 y1
            refine bodyPost_ret (v := .tuple #[.agg #[.int .i64 (k : Int), .int .i64 (m : Int)], .int .i64 0]) (by simp [results, Try.results21, go_sem, y0, y1]; try rfl) rfl ⟨?_, hBE⟩
            exact .inl ⟨k, m, ⟨by omega, by omega, HCL2.out, h0.out, fun j' h2 h3 => h1.out j' h2 h3⟩, rfl⟩
        · obtain rfl : m = l.length := by omega
          have H1 : Hid (∀ i', i' < k + 1 → ∀ j', i' < j' → j' < L.length → clashAt L i' j' = false) := fun i' h2 j' h3 h4 => by
            by_cases e : i' = k
            · subst e; exact h1.out j' h3 (by omega)
            · exact h0.out i' (by omega) j' h3 h4
          go_wp2
          exact ⟨⟨k + 1, by omega, by go_num, bel_tr hb2 hb2.size hbi, H1⟩, by simp [intOf]; omega⟩
    · obtain rfl : k = l.length := by omega
      have hBr : Below w.heap.size w wr := bel_tr hB1 hB1.size hbr
      have f0 := hYr.frozen 0
      have f1 := hYr.frozen 1
      have hzY := hYr.lt
      have v0 := hYr.cell 0; have v1 := hYr.cell 1; simp only [List.getElem?_cons_zero, List.getElem?_cons_succ] at v0 v1
      go_wp2
      obtain ⟨WE, hWE⟩ : ∃ WE, (wr.setCell ⟨w.heap.size, 0, none⟩ (.int .i64 0)).setCell ⟨w.heap.size, 1, none⟩ (.int .i64 0) = WE := ⟨_, rfl⟩
      rw [hWE]
      have hE : Blk WE w.heap.size 42 [.int .i64 0, .int .i64 0] := by rw [← hWE]; exact (hYr.set_ 0 _).set_ 1 _
      have hBE : Below w.heap.size w WE := by rw [← hWE]; exact (hBr.setCell (Nat.le_refl _) _).setCell (Nat.le_refl _) _
      clear hWE
      have y0 := hE.cell 0; have y1 := hE.cell 1; simp only [List.getElem?_cons_zero, List.getElem?_cons_succ] at y0 y1
      refine bodyPost_ret (v := .tuple #[.agg #[.int .i64 0, .int .i64 0], .int .i64 12]) (by simp [results, Try.results21, go_sem, y0, y1]; try rfl) rfl ⟨?_, hBE⟩
      exact .inr ⟨fun i h2 j h3 h4 => h0.out i (by omega) j h3 h4, rfl⟩
end Go.Proofs.Ytmdmkmfemhkfgaa

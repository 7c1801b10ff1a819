/- Contracts: layers. -/
import Derived.Test.YtgnhkjfdicdcmaaJ1
namespace Go.Proofs.Ytgnhkjfdicdcmaa
open Go.RowKit
set_option maxRecDepth 100000

theorem Try.infoI : (Try.prog.info? 3).map (fun i => (i.zero, i.size, i.bytes)) = some (some (.int .i64 0), 1, 8) := by kernel_rfl

def tI (T : List Nat) : List Int := T.map fun (i : Nat) => (i : Int)
@[simp] theorem tI_length (T : List Nat) : (tI T).length = T.length := by simp [tI]
theorem tI_append (T : List Nat) (i : Nat) : tI (T ++ [i]) = tI T ++ [(i : Int)] := by simp [tI]
theorem layR_length (l : List G) (k : Nat) : (layR l k).length ≤ k := by
  induction k with
  | zero => simp [layR]
  | succ k ih => rw [layR]; split
                 · simp; omega
                 · omega
theorem layP_length (l : List G) (T : List Nat) (k : Nat) : (layP l T k).length ≤ k := by
  induction k with
  | zero => simp [layP]
  | succ k ih => rw [layP]; split
                 · simp; omega
                 · omega

set_option maxHeartbeats 2000000 in
theorem refLayers_c (base : Int) (A : Option Addr) (c : Nat) (l : List G) (w : World) (hr : Rd w A (gs l)) (hl : l.length ≤ 1000) :
    Calls Try.prog 33 #[.agg #[.int .i64 base, .slice A l.length c]] w fun r w' => (∃ A' c', r = .returned (.slice A' (layR l l.length).length c') ∧ Rd w' A' (ints (layR l l.length))) ∧ Below w.heap.size w w' := by
  obtain ⟨i0, hi, iz0, iz1, iz2⟩ := info_parts Try.infoI
  obtain ⟨W0, hW0⟩ : ∃ W0, w.alloc (.cells #[.int .i64 base, .slice A l.length c] 24) = W0 := ⟨_, rfl⟩
  have hX0 : Blk W0 w.heap.size 24 [.int .i64 base, .slice A l.length c] := by rw [← hW0]; exact Blk.new w _ [_, _]
  have hB0 : Below w.heap.size w W0 := by rw [← hW0]; exact alloc_bel w _
  have hr0 := hr.bel hB0
  have HW := hide hW0
  clear hW0 hr
  have c0 := hX0.cell 0; have c1 := hX0.cell 1; simp only [List.getElem?_cons_zero, List.getElem?_cons_succ] at c0 c1
  have z0 := hX0.lt
  have hLL := hide (fun k => layR_length l k)
  go_enter Try.func33, Try.ntmps33
  go_upto_region 1 with fail
  rw [HW.out]
  go_wp2
  clear c0 c1
  obtain ⟨q, hq⟩ : ∃ q, W0.heap.size = q := ⟨_, rfl⟩
  go_loopw [3, 4] (fun v x wr => ∃ k : Nat, k ≤ l.length ∧ x = .int .i64 k ∧ Below q W0 wr ∧ wr.ownsRow q 3 1 v (layR l k).length (ints (layR l k))) (fun _ x _ => l.length - (intOf x).toNat)
  case atStart => exact ⟨0, Nat.zero_le _, rfl, Below.refl _ _, World.ownsRow_nil _ _ _ _⟩
  case round =>
    obtain ⟨k, hk, rfl, hbr, hown⟩ := hrel
    have hXr := hX0.below hbr (by omega)
    have hrr := hr0.below hbr (by omega)
    have hLk := hLL.out k
    have hqr : q ≤ wr.heap.size := by rw [← hq]; exact hbr.size
    by_cases hlt : k < l.length
    · obtain ⟨b, off, rfl, hblt, hc0, hc1⟩ := hrr.g_at hlt
      have HD := hide (fun W h => besideD_c base (some ⟨b, off, none⟩) c l k W h hl (by omega))
      have HU := hide (fun W h => besideU_c base (some ⟨b, off, none⟩) c l k W h hl hlt)
      have HX : Hid (layR l (k + 1) = if 0 < (l.getD k G0).2 ∧ bDown l k < (l.getD k G0).1 ∧ bUp l (k + 1) < (l.getD k G0).1 then layR l k ++ [(k : Int)] else layR l k) := rfl
      rw [getD_at hlt] at HX
      generalize l[k].1 = s1 at hc0 HX
      generalize l[k].2 = t1 at hc1 HX
      generalize bDown l k = dn at HD HX
      generalize bUp l (k + 1) = up at HU HX
      generalize layR l k = L at hown hLk HX
      have c0 := hXr.cell 0; have c1 := hXr.cell 1; simp only [List.getElem?_cons_zero, List.getElem?_cons_succ] at c0 c1
      have z1 := hXr.lt
      go_upto_region 6 with fail
      obtain ⟨W3, hW3⟩ : ∃ W3, wr.alloc (.cells #[.int .i64 s1, .int .i64 t1] 69) = W3 := ⟨_, rfl⟩
      have hb3 : Below wr.heap.size wr W3 := by rw [← hW3]; exact alloc_bel _ _
      have hP3 : Blk W3 wr.heap.size 69 [.int .i64 s1, .int .i64 t1] := by rw [← hW3]; exact Blk.new wr _ [_, _]
      have hX3 := hXr.bel hb3
      have hr3 := hrr.bel hb3
      have hown3 := ownsRow_bel hown hb3
      have hbr3 : Below q W0 W3 := hbr.trans (hb3.mono hqr)
      rw [hW3]
      clear hW3 hc0 hc1 c0 c1 z1 hown hXr hrr hr0 hX0
      have d0 := hX3.cell 0; have d1 := hX3.cell 1; simp only [List.getElem?_cons_zero, List.getElem?_cons_succ] at d0 d1
      have g0 := hP3.cell 0; have g1 := hP3.cell 1; simp only [List.getElem?_cons_zero, List.getElem?_cons_succ] at g0 g1
      have z3 := hX3.lt
      have z4 := hP3.lt
      have hq3 : q ≤ W3.heap.size := by omega
      obtain ⟨LA, lc, rfl⟩ := ownsRow_slice hown3
      by_cases h1 : 0 < t1
      · have e1 : decide (0 < t1) = true := decide_eq_true h1
        by_cases h2 : dn < s1
        · have e2 : decide (dn < s1) = true := decide_eq_true h2
          by_cases h3 : up < s1
          · have HF : Hid (layR l (k + 1) = L ++ [(k : Int)]) := by show _ = _; rw [HX.out, if_pos ⟨h1, h2, h3⟩]
            have e3 : decide (up < s1) = true := decide_eq_true h3
            clear h1 h2 h3 HX
            go_cut [36] from 18 to 36 (fun t wx => t = .bool true ∧ Below W3.heap.size W3 wx)
            case first =>
              go_region_held3 (fun w' => (∀ b o, b < W3.heap.size → w'.cell? ⟨b, o, none⟩ = W3.cell? ⟨b, o, none⟩) ∧ Below W3.heap.size W3 w')
                ((refine kp ?_; (repeat' (first | with_reducible exact Below.refl _ _ | with_reducible exact HB1.out | with_reducible exact HB2.out | with_reducible refine Below.drew ?_ | with_reducible refine bel_alloc ?_ ?_ _)); all_goals (first | omega | (simp <;> omega))))
                (first
                  | (go_at_call 79; with_reducible refine (HD.out _ ?_).mono ?_; exact hr3.bel (by (repeat' (first | with_reducible exact Below.refl _ _ | with_reducible exact HB2.out | with_reducible exact HB1.out | with_reducible refine Below.drew ?_ | with_reducible refine bel_alloc ?_ ?_ _)); all_goals (first | omega | (simp <;> omega))); rintro e wA ⟨rfl, hbA⟩; have HB1 : Hid (Below W3.heap.size W3 wA) := (by refine hide (Below.trans ?_ (hbA.mono ?_)); (repeat' (first | with_reducible exact Below.refl _ _ | with_reducible exact HB2.out | with_reducible exact HB1.out | with_reducible refine Below.drew ?_ | with_reducible refine bel_alloc ?_ ?_ _)); all_goals (first | omega | (simp <;> omega))); have sA := HB1.out.size)
                  | (go_at_call 79; with_reducible refine (HU.out _ ?_).mono ?_; exact hr3.bel (by (repeat' (first | with_reducible exact Below.refl _ _ | with_reducible exact HB2.out | with_reducible exact HB1.out | with_reducible refine Below.drew ?_ | with_reducible refine bel_alloc ?_ ?_ _)); all_goals (first | omega | (simp <;> omega))); rintro e wB ⟨rfl, hbB⟩; have HB2 : Hid (Below W3.heap.size W3 wB) := (by refine hide (Below.trans ?_ (hbB.mono ?_)); (repeat' (first | with_reducible exact Below.refl _ _ | with_reducible exact HB2.out | with_reducible exact HB1.out | with_reducible refine Below.drew ?_ | with_reducible refine bel_alloc ?_ ?_ _)); all_goals (first | omega | (simp <;> omega))); have sB := HB2.out.size))
              all_goals (
                go_wp2
                go_meet
                refine ⟨rfl, ?_⟩
                first | exact HB2.out | exact HB1.out)
            obtain ⟨rfl, hbw⟩ := hcut
            have hown4 := ownsRow_bel hown3 hbw
            have hbr4 : Below q W0 wc := hbr3.trans (hbw.mono hq3)
            have hq4 : q ≤ wc.heap.size := by have := hbw.size; omega
            have hX4 := hX3.bel hbw
            go_wp2_with (at_builtin; refine wpList_append_own _ rfl _ _ 40 rfl q 3 i0 _ 1 8 Try.underlying40 hi iz0 iz1 iz2 rfl (by decide) _ _ _ rfl (hown4.alloc _) ⟨wc.heap.size, 0, none⟩ 1 1 [.int .i64 k] rfl rfl (World.news_of_block (heap_alloc_new wc _)) (by simp [Value.oneCell']) (by unfold maxLen; omega) (by omega) (by simp; omega) ?_; intro v' w8 hown8 hg8 _)
            have hb8 : Below q W0 w8 := (bel_alloc hbr4 hq4 _).grown hg8 (by simp; omega) (fun j hj => by have := (hown4.lt j hj).1; omega)
            go_roundw
            case rel => exact ⟨k + 1, by omega, by go_num, hb8, by rw [HF.out]; simpa [ints_append, ints] using hown8⟩
            case measure => simp [intOf]; omega
          · have HF : Hid (layR l (k + 1) = L) := by show _ = _; rw [HX.out, if_neg (by omega)]
            have e3 : decide (up < s1) = false := decide_eq_false h3
            clear h1 h2 h3 HX
            go_cut [36] from 18 to 36 (fun t wx => t = .bool false ∧ Below W3.heap.size W3 wx)
            case first =>
              go_region_held3 (fun w' => (∀ b o, b < W3.heap.size → w'.cell? ⟨b, o, none⟩ = W3.cell? ⟨b, o, none⟩) ∧ Below W3.heap.size W3 w')
                ((refine kp ?_; (repeat' (first | with_reducible exact Below.refl _ _ | with_reducible exact HB1.out | with_reducible exact HB2.out | with_reducible refine Below.drew ?_ | with_reducible refine bel_alloc ?_ ?_ _)); all_goals (first | omega | (simp <;> omega))))
                (first
                  | (go_at_call 79; with_reducible refine (HD.out _ ?_).mono ?_; exact hr3.bel (by (repeat' (first | with_reducible exact Below.refl _ _ | with_reducible exact HB2.out | with_reducible exact HB1.out | with_reducible refine Below.drew ?_ | with_reducible refine bel_alloc ?_ ?_ _)); all_goals (first | omega | (simp <;> omega))); rintro e wA ⟨rfl, hbA⟩; have HB1 : Hid (Below W3.heap.size W3 wA) := (by refine hide (Below.trans ?_ (hbA.mono ?_)); (repeat' (first | with_reducible exact Below.refl _ _ | with_reducible exact HB2.out | with_reducible exact HB1.out | with_reducible refine Below.drew ?_ | with_reducible refine bel_alloc ?_ ?_ _)); all_goals (first | omega | (simp <;> omega))); have sA := HB1.out.size)
                  | (go_at_call 79; with_reducible refine (HU.out _ ?_).mono ?_; exact hr3.bel (by (repeat' (first | with_reducible exact Below.refl _ _ | with_reducible exact HB2.out | with_reducible exact HB1.out | with_reducible refine Below.drew ?_ | with_reducible refine bel_alloc ?_ ?_ _)); all_goals (first | omega | (simp <;> omega))); rintro e wB ⟨rfl, hbB⟩; have HB2 : Hid (Below W3.heap.size W3 wB) := (by refine hide (Below.trans ?_ (hbB.mono ?_)); (repeat' (first | with_reducible exact Below.refl _ _ | with_reducible exact HB2.out | with_reducible exact HB1.out | with_reducible refine Below.drew ?_ | with_reducible refine bel_alloc ?_ ?_ _)); all_goals (first | omega | (simp <;> omega))); have sB := HB2.out.size))
              all_goals (
                go_wp2
                go_meet
                refine ⟨rfl, ?_⟩
                first | exact HB2.out | exact HB1.out)
            obtain ⟨rfl, hbw⟩ := hcut
            have hown4 := ownsRow_bel hown3 hbw
            have hbr4 : Below q W0 wc := hbr3.trans (hbw.mono hq3)
            go_wp2
            go_roundw
            case rel => exact ⟨k + 1, by omega, by go_num, hbr4, by rw [HF.out]; exact hown4⟩
            case measure => simp [intOf]; omega
        · have HF : Hid (layR l (k + 1) = L) := by show _ = _; rw [HX.out, if_neg (by omega)]
          have e2 : decide (dn < s1) = false := decide_eq_false h2
          clear h1 h2 HX
          refine wp_region_held (S := fun w' => (∀ b o, b < W3.heap.size → w'.cell? ⟨b, o, none⟩ = W3.cell? ⟨b, o, none⟩) ∧ Below W3.heap.size W3 w') (by kernel_rfl) ?_
          have hSd : (∀ b o, b < W3.heap.size → W3.drew.cell? ⟨b, o, none⟩ = W3.cell? ⟨b, o, none⟩) ∧ Below W3.heap.size W3 W3.drew := kp (Below.refl _ _).drew
          change wpAnyH _ _ _ _ _ _ _ _ W3.drew
          refine wpAnyH_take (i := 0) (v := ?_) rfl (by kernel_rfl) (by kernel_rfl) (by kernel_rfl) (fun _ _ _ h => h) (Or.inl ⟨by kernel_rfl, ?_⟩) (by assumption) ?_
          rotate_left 1
          · (intro w hSw; obtain ⟨hk1, hk2⟩ := hSw; go_simp <;> with_reducible rfl)
          simp only [Act.put, List.getElem_toArray, List.getElem_cons_zero, List.setIfInBounds_toArray, List.set_cons_zero, List.set_cons_succ]
          refine wpAnyH_take (i := 1) (v := ?_) rfl (by kernel_rfl) (by kernel_rfl) (by kernel_rfl) (fun _ _ _ h => h) (Or.inl ⟨by kernel_rfl, ?_⟩) (by assumption) ?_
          rotate_left 1
          · (intro w hSw; obtain ⟨hk1, hk2⟩ := hSw; go_simp <;> with_reducible rfl)
          simp only [Act.put, List.getElem_toArray, List.getElem_cons_zero, List.getElem_cons_succ, List.setIfInBounds_toArray, List.set_cons_zero, List.set_cons_succ]
          refine wpAnyH_take (i := 2) (v := ?_) rfl (by kernel_rfl) (by kernel_rfl) (by kernel_rfl) (fun _ _ _ h => h) (Or.inl ⟨by kernel_rfl, ?_⟩) (by assumption) ?_
          rotate_left 1
          · (intro w hSw; obtain ⟨hk1, hk2⟩ := hSw; go_simp <;> with_reducible rfl)
          simp only [Act.put, List.getElem_toArray, List.getElem_cons_zero, List.getElem_cons_succ, List.setIfInBounds_toArray, List.set_cons_zero, List.set_cons_succ]
          refine wpAnyH_take (i := 3) (v := ?_) rfl (by kernel_rfl) (by kernel_rfl) (by kernel_rfl) (fun _ _ _ h => h) (Or.inl ⟨by kernel_rfl, ?_⟩) (by assumption) ?_
          rotate_left 1
          · (intro w hSw; obtain ⟨hk1, hk2⟩ := hSw; go_simp <;> with_reducible rfl)
          simp only [Act.put, List.getElem_toArray, List.getElem_cons_zero, List.getElem_cons_succ, List.setIfInBounds_toArray, List.set_cons_zero, List.set_cons_succ]
          refine wpAnyH_take (i := 4) (v := ?_) rfl (by kernel_rfl) (by kernel_rfl) (by kernel_rfl) (fun _ _ _ h => h) (Or.inl ⟨by kernel_rfl, ?_⟩) (by assumption) ?_
          rotate_left 1
          · (intro w hSw; obtain ⟨hk1, hk2⟩ := hSw; go_simp <;> with_reducible rfl)
          simp only [Act.put, List.getElem_toArray, List.getElem_cons_zero, List.getElem_cons_succ, List.setIfInBounds_toArray, List.set_cons_zero, List.set_cons_succ]
          refine wpAnyH_take (i := 5) (v := ?_) rfl (by kernel_rfl) (by kernel_rfl) (by kernel_rfl) (fun _ _ _ h => h) (Or.inl ⟨by kernel_rfl, ?_⟩) (by assumption) ?_
          rotate_left 1
          · (intro w hSw; obtain ⟨hk1, hk2⟩ := hSw; go_simp <;> with_reducible rfl)
          simp only [Act.put, List.getElem_toArray, List.getElem_cons_zero, List.getElem_cons_succ, List.setIfInBounds_toArray, List.set_cons_zero, List.set_cons_succ]
          refine wpAnyH_take (i := 6) (v := ?_) rfl (by kernel_rfl) (by kernel_rfl) (by kernel_rfl) (fun _ _ _ h => h) (Or.inl ⟨by kernel_rfl, ?_⟩) (by assumption) ?_
          rotate_left 1
          · (intro w hSw; obtain ⟨hk1, hk2⟩ := hSw; go_simp <;> with_reducible rfl)
          simp only [Act.put, List.getElem_toArray, List.getElem_cons_zero, List.getElem_cons_succ, List.setIfInBounds_toArray, List.set_cons_zero, List.set_cons_succ]
          refine wpAnyH_take (i := 7) (v := ?_) rfl (by kernel_rfl) (by kernel_rfl) (by kernel_rfl) (fun _ _ _ h => h) (Or.inl ⟨by kernel_rfl, ?_⟩) (by assumption) ?_
          rotate_left 1
          · (intro w hSw; obtain ⟨hk1, hk2⟩ := hSw; go_simp <;> with_reducible rfl)
          simp only [Act.put, List.getElem_toArray, List.getElem_cons_zero, List.getElem_cons_succ, List.setIfInBounds_toArray, List.set_cons_zero, List.set_cons_succ]
          refine nextH (i := 8) (by kernel_rfl) rfl (fun K hK => ?_)
          go_simp
          refine (HD.out _ (hr3.bel hSd.2)).mono ?_
          rintro e wA ⟨rfl, hbA⟩
          have hSA := kp (bel_tr hSd.2 hSd.2.size hbA)
          clear hSd
          try dsimp only
          refine hK _ _ hSA ?_
          clear hK K
          refine wpAnyH_take (i := 9) (v := ?_) rfl (by kernel_rfl) (by kernel_rfl) (by kernel_rfl) (fun _ _ _ h => h) (Or.inl ⟨by kernel_rfl, ?_⟩) (by assumption) ?_
          rotate_left 1
          · (intro w hSw; obtain ⟨hk1, hk2⟩ := hSw; go_simp <;> with_reducible rfl)
          simp only [Act.put, List.getElem_toArray, List.getElem_cons_zero, List.getElem_cons_succ, List.setIfInBounds_toArray, List.set_cons_zero, List.set_cons_succ]
          refine wpAnyH_take (i := 10) (v := ?_) rfl (by kernel_rfl) (by kernel_rfl) (by kernel_rfl) (fun _ _ _ h => h) (Or.inl ⟨by kernel_rfl, ?_⟩) (by assumption) ?_
          rotate_left 1
          · (intro w hSw; obtain ⟨hk1, hk2⟩ := hSw; go_simp <;> with_reducible rfl)
          simp only [Act.put, List.getElem_toArray, List.getElem_cons_zero, List.getElem_cons_succ, List.setIfInBounds_toArray, List.set_cons_zero, List.set_cons_succ]
          refine wpAnyH_take (i := 11) (v := ?_) rfl (by kernel_rfl) (by kernel_rfl) (by kernel_rfl) (fun _ _ _ h => h) (Or.inl ⟨by kernel_rfl, ?_⟩) (by assumption) ?_
          rotate_left 1
          · (intro w hSw; obtain ⟨hk1, hk2⟩ := hSw; go_simp <;> with_reducible rfl)
          simp only [Act.put, List.getElem_toArray, List.getElem_cons_zero, List.getElem_cons_succ, List.setIfInBounds_toArray, List.set_cons_zero, List.set_cons_succ]
          refine wpAnyH_take (i := 12) (v := undef) rfl (by kernel_rfl) (by kernel_rfl) (by kernel_rfl) (fun _ _ _ h => h) (Or.inr ⟨by kernel_rfl, rfl⟩) (by assumption) ?_
          simp only [Act.put, List.getElem_toArray, List.getElem_cons_zero, List.getElem_cons_succ, List.setIfInBounds_toArray, List.set_cons_zero, List.set_cons_succ]
          refine wpAnyH_take (i := 13) (v := undef) rfl (by kernel_rfl) (by kernel_rfl) (by kernel_rfl) (fun _ _ _ h => h) (Or.inr ⟨by kernel_rfl, rfl⟩) (by assumption) ?_
          simp only [Act.put, List.getElem_toArray, List.getElem_cons_zero, List.getElem_cons_succ, List.setIfInBounds_toArray, List.set_cons_zero, List.set_cons_succ]
          refine wpAnyH_take (i := 14) (v := undef) rfl (by kernel_rfl) (by kernel_rfl) (by kernel_rfl) (fun _ _ _ h => h) (Or.inr ⟨by kernel_rfl, rfl⟩) (by assumption) ?_
          simp only [Act.put, List.getElem_toArray, List.getElem_cons_zero, List.getElem_cons_succ, List.setIfInBounds_toArray, List.set_cons_zero, List.set_cons_succ]
          refine wpAnyH_take (i := 15) (v := undef) rfl (by kernel_rfl) (by kernel_rfl) (by kernel_rfl) (fun _ _ _ h => h) (Or.inr ⟨by kernel_rfl, rfl⟩) (by assumption) ?_
          simp only [Act.put, List.getElem_toArray, List.getElem_cons_zero, List.getElem_cons_succ, List.setIfInBounds_toArray, List.set_cons_zero, List.set_cons_succ]
          refine wpAnyH_take (i := 16) (v := undef) rfl (by kernel_rfl) (by kernel_rfl) (by kernel_rfl) (fun _ _ _ h => h) (Or.inr ⟨by kernel_rfl, rfl⟩) (by assumption) ?_
          simp only [Act.put, List.getElem_toArray, List.getElem_cons_zero, List.getElem_cons_succ, List.setIfInBounds_toArray, List.set_cons_zero, List.set_cons_succ]
          refine wpAnyH_take (i := 17) (v := undef) rfl (by kernel_rfl) (by kernel_rfl) (by kernel_rfl) (fun _ _ _ h => h) (Or.inr ⟨by kernel_rfl, rfl⟩) (by assumption) ?_
          simp only [Act.put, List.getElem_toArray, List.getElem_cons_zero, List.getElem_cons_succ, List.setIfInBounds_toArray, List.set_cons_zero, List.set_cons_succ]
          refine wpAnyH_take (i := 18) (v := ?_) rfl (by kernel_rfl) (by kernel_rfl) (by kernel_rfl) (fun _ _ _ h => h) (Or.inl ⟨by kernel_rfl, ?_⟩) (by assumption) ?_
          rotate_left 1
          · (intro w hSw; obtain ⟨hk1, hk2⟩ := hSw; go_simp <;> with_reducible rfl)
          simp only [Act.put, List.getElem_toArray, List.getElem_cons_zero, List.getElem_cons_succ, List.setIfInBounds_toArray, List.set_cons_zero, List.set_cons_succ]
          refine wpAnyH_done (by kernel_rfl) ?_ _
          have hbw := hSA.2
          have hown4 := ownsRow_bel hown3 hbw
          have hbr4 : Below q W0 wA := hbr3.trans (hbw.mono hq3)
          go_wp2
          go_roundw
          case rel => exact ⟨k + 1, by omega, by go_num, hbr4, by rw [HF.out]; exact hown4⟩
          case measure => simp [intOf]; omega
      · have HF : Hid (layR l (k + 1) = L) := by show _ = _; rw [HX.out, if_neg (by omega)]
        have e1 : decide (0 < t1) = false := decide_eq_false h1
        clear h1 HX
        go_quiet (fail)
        go_wp2
        go_roundw
        case rel => exact ⟨k + 1, by omega, by go_num, below_drewN hbr3 _, by rw [HF.out]; exact hown3⟩
        case measure => simp [intOf]; omega
    · obtain rfl : k = l.length := by omega
      obtain ⟨LA, lc, rfl⟩ := ownsRow_slice hown
      have c0 := hXr.cell 0; have c1 := hXr.cell 1; simp only [List.getElem?_cons_zero, List.getElem?_cons_succ] at c0 c1
      go_wp2
      go_ret
      exact ⟨⟨LA, lc, rfl, Rd.of_own hown⟩, hB0.trans (hbr.mono (by omega))⟩
end Go.Proofs.Ytgnhkjfdicdcmaa

/- Contracts: the greatest group; nets with an error. -/
import Derived.Test.YtmdmkmfemhkfgaaE34
set_option linter.unusedSimpArgs false
set_option linter.unusedVariables false
set_option linter.unusedSimpArgs false
set_option linter.unusedVariables false
namespace Go.Proofs.Ytmdmkmfemhkfgaa
open Go.RowKit
set_option maxRecDepth 100000

theorem apart_last {l : List G} (hp : ∀ k (h : k < l.length), 0 ≤ l[k].1 ∧ l[k].1 < l[k].2) {g : List Int} {s : Nat} (h : g.any (apart l (s : Int)) = false) : g.getLastD (-1) < (s : Int) := by
  by_cases hg : g = []
  · subst hg; show (-1 : Int) < s; omega
  · have h1 : g.getLastD (-1) = g.getLast hg := by rw [List.getLastD_eq_getLast?, List.getLast?_eq_some_getLast hg]; rfl
    rw [List.any_eq_false] at h
    have h2 := h _ (List.getLast_mem hg)
    simp only [apart, Bool.not_eq_true', decide_eq_false_iff_not, Decidable.not_not] at h2
    obtain ⟨k, hk, e⟩ := List.getElem_of_mem h2
    have h3 := hp k hk
    rw [e] at h3
    rw [h1]
    exact h3.2
theorem tried_all {l : List G} {F : Nat → List Int} {g : List Int} {n : Nat} (h : ∀ s, s < n → g.any (apart l (s : Int)) = true) : ∀ k, k ≤ n → tried l F g k = g
  | 0, _ => rfl
  | k + 1, hk => by rw [tried_succ, if_pos (h k (by omega))]; exact tried_all h k (by omega)
theorem groupFrom_c (l : List G) (A : Option Addr) (cp n : Nat) (hn8 : n ≤ 8) (hl : l.length ≤ 1000) (hpairs : ∀ k (h : k < l.length), 0 ≤ l[k].1 ∧ l[k].1 < l[k].2) :
    ∀ (r : Nat) (g : List Int), (n : Int) ≤ g.getLastD (-1) + 1 + r → (g.length : Int) ≤ g.getLastD (-1) + 1 → g.getLastD (-1) < (n : Int) → ∀ (A' : Option Addr) (c' : Nat) (w : World), Rd w A' (ints g) → Rd w A (gs l) →
      Calls Try.prog 79 #[.agg #[.int .i64 (n : Int), .slice A l.length cp], .slice A' g.length c'] w (GP (groupF l n r g) w)
  | 0, g, h1, h2, h3, A', c', w, hs, hr => by
    have hall : ∀ s, s < n → g.any (apart l (s : Int)) = true := fun s hs => by
      cases e : g.any (apart l (s : Int))
      · have := apart_last hpairs e
        omega
      · rfl
    have h := groupFrom_step l A cp n (fun _ => []) g hl (by omega) hn8 (fun s hs ha => by rw [hall s hs] at ha; cases ha) A' c' w hs hr
    rw [tried_all hall n (Nat.le_refl _)] at h
    exact h
  | r + 1, g, h1, h2, h3, A', c', w, hs, hr =>
    groupFrom_step l A cp n (fun s => groupF l n r (g ++ [(s : Int)])) g hl (by omega) hn8 (fun s hs ha A' c' w h4 h5 => by
      have h6 := apart_last hpairs ha
      have h7 : (g ++ [(s : Int)]).getLastD (-1) = (s : Int) := by simp
      have := groupFrom_c l A cp n hn8 hl hpairs r (g ++ [(s : Int)]) (by rw [h7]; omega) (by rw [h7, List.length_append, List.length_singleton]; omega) (by rw [h7]; omega) A' c' w h4 h5
      rw [List.length_append, List.length_singleton] at this
      exact this) A' c' w hs hr

theorem groupOf_ok (n : Nat) (A : Option Addr) (c : Nat) (l : List G) (w : World) (hr : Rd w A (gs l)) (hl : l.length ≤ 1000) (hc : l.length ≤ c) (he : (netE n l).2 = 0) :
    Calls Try.prog 40 #[.agg #[.int .i64 (n : Int), .slice A l.length c]] w fun r w' => (∃ A' c', r = .returned (.tuple #[.slice A' (groupF l n n []).length c', .int .i64 0]) ∧ Rd w' A' (ints (groupF l n n []))) ∧ Below w.heap.size w w' := by
  have hN := netE_zero he
  have HE := hide (fun W (h : Rd W A (gs l)) => netError_c (n : Int) A c l W h hl hc)
  rw [he] at HE
  have HG := hide (fun W (h : Rd W A (gs l)) => groupFrom_c l A c n (by have := hN.n1; omega) hl (fun k h => ⟨(hN.pair k h).1, (hN.pair k h).2.1⟩) n [] (by simp) (by simp) (by have := hN.n0; simp; omega) none 0 W (Rd.nil _ _) h)
  simp only [List.length_nil] at HG
  clear hN he
  obtain ⟨p, hp⟩ : ∃ p, w.heap.size = p := ⟨_, rfl⟩
  obtain ⟨W, hW⟩ : ∃ W, w.alloc (.cells #[.int .i64 (n : Int), .slice A l.length c] 71) = W := ⟨_, rfl⟩
  have hX : Blk W p 71 [.int .i64 (n : Int), .slice A l.length c] := by rw [← hW, ← hp]; exact Blk.new w _ [_, _]
  have hB : Below p w W := by rw [← hW, ← hp]; exact alloc_bel _ _
  have hrW := hr.bel (by rw [hp]; exact hB)
  have hpW := hX.lt
  have HW := hide hW
  clear hW hr
  have c0 := hX.cell 0; have c1 := hX.cell 1; simp only [List.getElem?_cons_zero, List.getElem?_cons_succ] at c0 c1
  generalize groupF l n n [] = out at HG ⊢
  go_enter Try.func40, Try.ntmps40
  go_upto_region 1 with fail
  try rw [hp]
  rw [HW.out]
  go_upto_region 2 with (first | (go_at_call 74; refine (HE.out _ hrW).mono ?_; rintro e_ w2 ⟨rfl, hb2⟩))
  have hX2 := hX.bel hb2
  have hr2 := hrW.bel hb2
  have hB2 : Below p w w2 := bel_tr hB (by omega) hb2
  clear c0 c1
  have c0 := hX2.cell 0; have c1 := hX2.cell 1; simp only [List.getElem?_cons_zero, List.getElem?_cons_succ] at c0 c1
  have hz2 := hX2.lt
  go_wp2_with (first | (go_at_call 79; refine (HG.out _ hr2).mono ?_; rintro e_ w3 ⟨⟨A', c', rfl, hd⟩, hb3⟩))
  go_ret2
  exact ⟨⟨A', c', rfl, hd⟩, (by first | exact bel_tr hB2 (by have := hb2.size; omega) hb3 | (rw [hp]; exact bel_tr hB2 (by have := hb2.size; omega) hb3))⟩
theorem groupOf_bad (n : Int) (A : Option Addr) (c : Nat) (l : List G) (w : World) (hr : Rd w A (gs l)) (hl : l.length ≤ 1000) (hc : l.length ≤ c) (he : (netE n l).2 ≠ 0) :
    Calls Try.prog 40 #[.agg #[.int .i64 n, .slice A l.length c]] w fun r w' => r = .returned (.tuple #[.slice none 0 0, .int .i64 (netE n l).2]) ∧ Below w.heap.size w w' := by
  have HE := hide (fun W (h : Rd W A (gs l)) => netError_c n A c l W h hl hc)
  generalize (netE n l).2 = e at HE he ⊢
  have e1 : (e != 0) = true := by simpa using he
  clear he
  have hbel := alloc_bel w (.cells #[.int .i64 n, .slice A l.length c] 71)
  have hrW := hr.bel hbel
  go_enter Try.func40, Try.ntmps40
  go_wp2_with (first | (go_at_call 74; refine (HE.out _ hrW).mono ?_; rintro e_ w2 ⟨rfl, hb2⟩))
  go_ret2
  exact ⟨rfl, bel_tr hbel (by simp) hb2⟩
theorem planFor_bad (n : Int) (A : Option Addr) (c : Nat) (l : List G) (w : World) (hr : Rd w A (gs l)) (hl : l.length ≤ 1000) (hc : l.length ≤ c) (he : (netE n l).2 ≠ 0) :
    Calls Try.prog 39 #[.agg #[.int .i64 n, .slice A l.length c]] w fun r w' => r = .returned (.tuple #[.slice none 0 0, .int .i64 0, .int .i64 (netE n l).2]) ∧ Below w.heap.size w w' := by
  have HE := hide (fun W (h : Rd W A (gs l)) => netError_c n A c l W h hl hc)
  generalize (netE n l).2 = e at HE he ⊢
  have e1 : (e != 0) = true := by simpa using he
  clear he
  have hbel := alloc_bel w (.cells #[.int .i64 n, .slice A l.length c] 71)
  have hrW := hr.bel hbel
  go_enter Try.func39, Try.ntmps39
  go_wp2_with (first | (go_at_call 74; refine (HE.out _ hrW).mono ?_; rintro e_ w2 ⟨rfl, hb2⟩))
  go_ret3
  exact ⟨rfl, bel_tr hbel (by simp) hb2⟩
end Go.Proofs.Ytmdmkmfemhkfgaa

/- Contracts: a slice without one item; copies; the size of a queue. -/
import Derived.Test.YtohdjhdkmdhhcaaE77
import Derived.Test.YtohdjhdkmdhhcaaE71
import Derived.Deep.RegionLaw
import Derived.Lib.SliceRun
set_option linter.unusedSimpArgs false
set_option linter.unusedVariables false
set_option linter.unusedSimpArgs false
set_option linter.unusedVariables false
namespace Go.Proofs.Ytohdjhdkmdhhcaa
open Go.RowKit
set_option maxRecDepth 100000

/-- Cells written over others. -/
def overL (cs : List Value) : Nat → List Value → List Value
  | _, [] => cs
  | o, v :: vs => overL (cs.set o v) (o + 1) vs
theorem overL_len (vs : List Value) : ∀ (cs : List Value) (o : Nat), (overL cs o vs).length = cs.length := by
  induction vs with
  | nil => intro cs o; rfl
  | cons v vs ih => intro cs o; rw [overL, ih, List.length_set]
theorem overL_lt (vs : List Value) : ∀ (cs : List Value) (o j : Nat), j < o → (overL cs o vs)[j]? = cs[j]? := by
  induction vs with
  | nil => intro cs o j _; rfl
  | cons v vs ih => intro cs o j h; rw [overL, ih _ _ _ (by omega), List.getElem?_set_ne (by omega)]
theorem overL_in (vs : List Value) : ∀ (cs : List Value) (o j : Nat), j < vs.length → o + j < cs.length → (overL cs o vs)[o + j]? = vs[j]? := by
  induction vs with
  | nil => intro cs o j h; cases h
  | cons v vs ih =>
    intro cs o j h hl
    cases j with
    | zero =>
      simp only [Nat.add_zero] at hl ⊢
      rw [overL, overL_lt vs _ (o + 1) o (by omega), List.getElem?_set_self hl]
      rfl
    | succ j =>
      rw [overL, show o + (j + 1) = o + 1 + j by omega, ih _ _ _ (by simpa using h) (by rw [List.length_set]; omega)]
      simp
theorem Blk.setCells {g : Nat} {t : TypeId} (vs : List Value) : ∀ {w : World} {cs : List Value} (o : Nat), Blk w g t cs → Blk (w.setCells g o vs) g t (overL cs o vs) := by
  induction vs with
  | nil => intro w cs o h; exact h
  | cons v vs ih => intro w cs o h; exact ih (o + 1) (h.set_ o v)
theorem grown_setCells {g : Nat} (vs : List Value) : ∀ (w : World) (o : Nat), w.grownBy (w.setCells g o vs) (some g) := by
  induction vs with
  | nil => intro w o; exact ⟨rfl, rfl, rfl, Nat.le_refl _, fun _ _ _ => rfl⟩
  | cons v vs ih =>
    intro w o
    have h1 : w.grownBy (w.setCell ⟨g, o, none⟩ v) (some g) := ⟨rfl, rfl, rfl, by simp [World.setCell], fun k _ hne => Below.heap_setCell _ _ _ _ (fun e => hne (by rw [e]))⟩
    exact h1.trans (ih _ (o + 1))
theorem grown_drew {w w' : World} {r : Option Nat} (h : w.drew.grownBy w' r) : w.grownBy w' r := ⟨h.os, h.tape, h.output, h.size, h.block⟩
theorem grown_below {n g : Nat} {w w' : World} (h : w.grownBy w' (some g)) (hn : n ≤ g) (hz : n ≤ w.heap.size) : Below n w w' := ⟨h.os, h.tape, h.output, h.size, fun k hk => h.block k (by omega) (by intro e; injection e with e; omega)⟩
theorem rd_grown {w w' : World} {g : Nat} {A : Option Addr} {xs : List Value} (h : Rd w A xs) (hg : w.grownBy w' (some g)) (hA : xs ≠ [] → ∀ b o, A = some ⟨b, o, none⟩ → b ≠ g) : Rd w' A xs := by
  intro hx
  obtain ⟨b, o, rfl, hlt, hc⟩ := h hx
  exact ⟨b, o, rfl, Nat.lt_of_lt_of_le hlt hg.size, fun j u hu => (World.cell?_of_block (hg.block b hlt (by intro e; injection e with e; exact hA hx b o rfl e))).trans (hc j u hu)⟩
theorem blk_grown {w w' : World} {g b : Nat} {t : TypeId} {cs : List Value} (h : Blk w b t cs) (hg : w.grownBy w' (some g)) (hb : b ≠ g) : Blk w' b t cs := (hg.block b h.lt (by intro e; injection e with e; exact hb e)).trans h

theorem eraseI_its (l : List IT) (i : Nat) (hi : i < l.length) : its (l.eraseIdx i) = its (l.take i) ++ its (l.drop (i + 1)) := by rw [List.eraseIdx_eq_take_drop_succ, its_append]
set_option maxHeartbeats 2000000 in
theorem deleteJ_c (base : Nat) (l : List IT) (A : Option Addr) (cap i j : Nat) (hj : j = i + 1) (w : World) (hown : w.ownsRow base 37 4 (.slice A l.length cap) l.length (its l)) (hi : i < l.length) (hl : l.length ≤ 1000) :
    Calls Try.prog 45 #[.slice A l.length cap, .int .i64 (i : Int), .int .i64 (j : Int)] w fun r w' => ∃ g, A = some ⟨g, 0, none⟩ ∧ base ≤ g ∧ r = .returned (.slice A (l.eraseIdx i).length cap) ∧ w'.ownsRow base 37 4 (.slice A (l.eraseIdx i).length cap) (l.eraseIdx i).length (its (l.eraseIdx i)) ∧ w.grownBy w' (some g) := by
  obtain ⟨i0, hi0, iz0, iz1, iz2⟩ := info_parts Try.infoT
  have hel : (l.eraseIdx i).length = l.length - 1 := List.length_eraseIdx_of_lt hi
  rcases hown.2 with ⟨_, h0⟩ | ⟨g, cap', cur, hv, hbg, hh, hnc, hcm, hcs, htake⟩
  · omega
  injection hv with hA _ hc
  subst hc hA
  have hB : Blk w g 37 cur.toList := by unfold Blk; simpa using hh
  have hgz := hB.lt
  have hlen : cur.toList.length = cap * 4 := by simpa using hcs
  have hcap4 : l.length * 4 ≤ cap * 4 := by omega
  have hcell : ∀ j, j < l.length * 4 → w.cell? ⟨g, j, none⟩ = (its l)[j]? := fun j hj => by
    rw [hB.cell j, ← htake, List.getElem?_take, if_pos hj]
  obtain ⟨news, hnews⟩ : ∃ news, news = its (l.drop (i + 1)) := ⟨_, rfl⟩
  have hnl : news.length = (l.length - (i + 1)) * 4 := by rw [hnews, its_length, List.length_drop]
  have hnget : ∀ j, j < (l.length - (i + 1)) * 4 → news[j]? = (its l)[(i + 1) * 4 + j]? := fun j hj => by
    have e2 : its l = its (l.take (i + 1)) ++ news := by rw [hnews, ← its_append, List.take_append_drop]
    rw [e2, List.getElem?_append_right (by rw [its_length, List.length_take]; omega), its_length, List.length_take]
    congr 1
    omega
  obtain ⟨Ad, hAd, hsrc⟩ : ∃ Ad : Addr, (if cap = i + 1 then some (⟨g, 0, none⟩ : Addr) else some ⟨g, (i + 1) * 4, none⟩) = some Ad ∧ Hid (∀ t u, news[t]? = some u → w.drew.cell? (Ad.add t) = some u) := by
    by_cases h : cap = i + 1
    · refine ⟨⟨g, 0, none⟩, by simp [h], fun t u hu => ?_⟩
      have h0 : news.length = 0 := by rw [hnl]; omega
      rw [List.length_eq_zero_iff.1 h0] at hu
      simp at hu
    · refine ⟨⟨g, (i + 1) * 4, none⟩, by simp [h], fun t u hu => ?_⟩
      have ht : t < (l.length - (i + 1)) * 4 := by
        have := (List.getElem?_eq_some_iff.1 hu).1
        rwa [hnl] at this
      rw [hnget t ht] at hu
      rw [show (⟨g, (i + 1) * 4, none⟩ : Addr).add t = ⟨g, (i + 1) * 4 + t, none⟩ from by unfold Addr.add; split <;> simp_all]
      exact (hcell _ (by omega)).trans hu
  have s1 : Hid (news.length = (l.length - (i + 1)) * 4) := hnl
  have s2 : Hid (∀ u ∈ news, u.oneCell' = true) := by rw [hnews]; exact its_one _
  have s3 : Hid (∀ t, t < news.length → (w.drew.cell? ⟨g, 0 + i * 4 + t, none⟩).isSome = true ∧ w.drew.frozen? ⟨g, 0 + i * 4 + t, none⟩ = false) := by
    intro t ht
    rw [hnl] at ht
    refine ⟨?_, hB.frozen _⟩
    show (w.cell? _).isSome = true
    rw [hB.cell, List.getElem?_eq_getElem (by omega)]
    rfl
  obtain ⟨W1, hW1⟩ : ∃ W1, W1 = w.drew.setCells g (0 + i * 4) news := ⟨_, rfl⟩
  have hB1 : Blk W1 g 37 (overL cur.toList (0 + i * 4) news) := by rw [hW1]; exact Blk.setCells news _ (hB.drewN 1)
  obtain ⟨zs, hzs⟩ : ∃ zs : List Value, zs = [.string ⟨#[]⟩, .int .i64 0, .int .i64 0, .int .i64 0] := ⟨_, rfl⟩
  have hcl : ∀ ty, (Builtin.clear_ #[22] ty #[.slice (some ⟨g, (l.length - 1) * 4, none⟩) 1 (cap - (l.length - 1))]).run Try.prog W1 = .ok (.tuple #[]) (W1.setCells g ((l.length - 1) * 4) zs) := by
    intro ty
    have hst := run_storeCells_cells (P := Try.prog) g ((l.length - 1) * 4) zs 0 W1 (fun j hj => by
      rw [hzs] at hj
      rw [hB1.cell, List.getElem?_eq_getElem (by rw [overL_len, hlen]; simp at hj; omega)]
      rfl) (fun j hj => hB1.frozen _) (by rw [hzs]; intro v hv; simp at hv; rcases hv with rfl | rfl | rfl | rfl <;> rfl)
    rw [hzs] at hst ⊢
    have hzc : (Builtin.zeroCells (Value.agg #[.string ⟨#[]⟩, .int .i64 0, .int .i64 0, .int .i64 0]).cells 1).toList = [.string ⟨#[]⟩, .int .i64 0, .int .i64 0, .int .i64 0] := by kernel_rfl
    simp only [Nat.add_zero] at hst
    simp [Builtin.clear_, run_underlying Try.underlying22, Try.zeroValue37, hzc, hst]
  have X : Hid ((W1.setCells g ((l.length - 1) * 4) zs).ownsRow base 37 4 (.slice (some ⟨g, 0, none⟩) (l.eraseIdx i).length cap) (l.eraseIdx i).length (its (l.eraseIdx i)) ∧ w.grownBy (W1.setCells g ((l.length - 1) * 4) zs) (some g)) := by
    refine ⟨⟨by rw [its_length], .inr ⟨g, cap, (overL (overL cur.toList (0 + i * 4) news) ((l.length - 1) * 4) zs).toArray, rfl, hbg, Blk.setCells zs _ hB1, by omega, hcm, by simp [overL_len, hlen], ?_⟩⟩, ?_⟩
    · refine List.ext_getElem? fun j => ?_
      rw [List.getElem?_take, hel]
      split
      · rename_i hj
        rw [List.toList_toArray, overL_lt _ _ _ _ hj]
        rw [eraseI_its l i hi, ← hnews]
        have htl : (its (l.take i)).length = i * 4 := by rw [its_length, List.length_take]; omega
        by_cases h1 : j < i * 4
        · rw [overL_lt _ _ _ _ (by omega), List.getElem?_append_left (by omega), ← hB.cell j, hcell j (by omega)]
          have e2 : its l = its (l.take i) ++ its (l.drop i) := by rw [← its_append, List.take_append_drop]
          rw [e2, List.getElem?_append_left (by omega)]
        · rw [List.getElem?_append_right (by omega), htl]
          have := overL_in news cur.toList (0 + i * 4) (j - i * 4) (by omega) (by omega)
          rwa [show 0 + i * 4 + (j - i * 4) = j by omega] at this
      · rename_i hj
        rw [List.getElem?_eq_none (by rw [its_length, hel]; omega)]
    · exact (grown_drew (by rw [hW1]; exact grown_setCells _ _ _)).trans (grown_setCells _ _ _)
  have hW : Hid (W1 = w.drew.setCells g (0 + i * 4) news) := hW1
  have hic : i ≤ cap := by omega
  have hjc : j ≤ cap := by omega
  have hjl : j ≤ l.length := by omega
  have hij : i ≤ j := by omega
  have hne : ((i : Int) == (j : Int)) = false := by simp; omega
  have hne2 : ¬ i = j := by omega
  have hAd2 : (if cap = j then some (⟨g, 0, none⟩ : Addr) else some ⟨g, j * 4, none⟩) = some Ad := by rw [hj]; exact hAd
  have hrl : i + (l.length - j) = (l.eraseIdx i).length := by omega
  have s1' : Hid (news.length = (l.length - j) * 4) := by rw [hj]; exact s1
  have HJ := hide hj
  obtain ⟨m, hm⟩ : ∃ m, l.length - 1 = m := ⟨_, rfl⟩
  rw [hm] at hcl X hel
  have hml : m ≤ l.length := by omega
  have hmc : m ≤ cap := by omega
  have hlm : l.length - m = 1 := by omega
  have hmz : ¬ cap = m := by omega
  clear hj hAd s1
  clear hW1 hB1 hB hcell hnget hnl hnews hh hcs htake hown hlen
  go_enter Try.func45, Try.ntmps45
  go_wp2_with fail
  go_region_law (refine step_append_room rfl (.tmp 22) (.tmp 25) 22 rfl 37 i0 4 Try.underlying22 hi0 iz1 g 0 i cap (by simp [Act.eval, Act.put]) Ad (l.length - j) (cap - j) news (by simp [Act.eval, Act.put]) s1'.out hsrc.out s2.out (by omega) s3.out ?_; rw [← hW.out])
  go_wp2
  go_ret
  have X2 := X.out
  rw [hzs] at X2
  exact ⟨g, rfl, hbg, by rw [hel]; rfl, X2⟩
theorem deleteT_c (base : Nat) (l : List IT) (A : Option Addr) (cap i : Nat) (w : World) (hown : w.ownsRow base 37 4 (.slice A l.length cap) l.length (its l)) (hi : i < l.length) (hl : l.length ≤ 1000) :
    Calls Try.prog 45 #[.slice A l.length cap, .int .i64 (i : Int), .int .i64 ((i : Int) + 1)] w fun r w' => ∃ g, A = some ⟨g, 0, none⟩ ∧ base ≤ g ∧ r = .returned (.slice A (l.eraseIdx i).length cap) ∧ w'.ownsRow base 37 4 (.slice A (l.eraseIdx i).length cap) (l.eraseIdx i).length (its (l.eraseIdx i)) ∧ w.grownBy w' (some g) :=
  deleteJ_c base l A cap i (i + 1) rfl w hown hi hl
end Go.Proofs.Ytohdjhdkmdhhcaa

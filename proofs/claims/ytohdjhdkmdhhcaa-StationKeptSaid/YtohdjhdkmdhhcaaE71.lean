/- Contracts: the order of a queue. -/
import Derived.Test.YtohdjhdkmdhhcaaE70
set_option linter.unusedSimpArgs false
set_option linter.unusedVariables false
set_option linter.unusedSimpArgs false
set_option linter.unusedVariables false
namespace Go.Proofs.Ytohdjhdkmdhhcaa
open Go.RowKit Go.Shelf Go.Sort
set_option maxRecDepth 100000

/-- The first k numbers. -/
def upI (k : Nat) : List Int := (List.range k).map fun (j : Nat) => (j : Int)
theorem upI_len (k : Nat) : (upI k).length = k := by simp [upI]
theorem upI_succ (k : Nat) : upI (k + 1) = upI k ++ [(k : Int)] := by simp [upI, List.range_succ]
theorem upI_at {k j : Nat} (h : j < k) : (ints (upI k))[j]? = some (.int .i64 (j : Int)) := by
  rw [ints_at (by rw [upI_len]; exact h)]
  simp [upI]
theorem holds_up {w : World} {base n c : Nat} {A : Option Addr} (h : w.ownsRow base 3 1 (.slice A (n + 1) c) (n + 1) (ints (upI (n + 1)))) :
    ∃ g, A = some ⟨g, 0, none⟩ ∧ base ≤ g ∧ g < w.heap.size ∧ n + 1 ≤ c ∧ Holds (encF n) w g 0 (idxR n) := by
  rcases h.2 with ⟨hv, hn⟩ | ⟨g, cap, cur, hv, hg, hh, hnc, _, hsz, htake⟩
  · cases hn
  · injection hv with hA _ hc
    subst hc
    have hlt : g < w.heap.size := (Array.getElem?_eq_some_iff.1 hh).1
    refine ⟨g, hA, hg, hlt, hnc, fun j hj => ?_⟩
    rw [idxR_size] at hj
    have h1 := idxR_get hj
    refine ⟨?_, by simp [World.frozen?, hh]⟩
    rw [Nat.zero_add, cell_of_row w g j cur _ (0, 0) hh]
    have h2 := upI_at hj
    rw [← htake, List.getElem?_take] at h2
    split at h2
    · rw [show encF n (idxR n)[j]! = .int .i64 (j : Int) by unfold encF; rw [h1]]
      simpa using h2
    · cases h2
theorem rd_ord {w0 W : World} {q : List IT} {n g : Nat} (hq : q.length = n + 1) (hH : Holds (encF n) w0 g 0 (idxR n)) (hg : g < w0.heap.size) (S : SW (encF n) w0 g 0 (Sort.insertionSort (wkF q) (idxR n) 0 (n + 1)) W) : Rd W (some ⟨g, 0, none⟩) (ints (ordI q)) := by
  have hi := ins_ord q hq
  generalize Sort.insertionSort (wkF q) (idxR n) 0 (n + 1) = d at hi S
  have hs : d.size = n + 1 := by
    have := congrArg List.length hi
    rw [List.length_map, ordL_len, hq] at this
    simpa using this
  have hW := S.holds hg hH (by rw [hs, idxR_size])
  intro _
  refine ⟨g, 0, rfl, S.lt hg, fun j u hu => ?_⟩
  have hj : j < q.length := by
    have := (List.getElem?_eq_some_iff.1 hu).1
    rwa [ints_length, ordI_len] at this
  rw [(hW j (by omega)).1, ← hu]
  have hj' : j < d.size := by omega
  have e1 : (ordL q)[j]? = some (d[j]'hj').val := by rw [← hi]; simp [hj']
  simp [ints, ordI, e1, encF, hj']

theorem orderOf_nil (A : Option Addr) (c : Nat) (w : World) :
    Calls Try.prog 37 #[.slice A 0 c] w fun r w' => r = .returned (.slice none 0 0) ∧ Below w.heap.size w w' := by
  have HS := hide (fun f cap W => stable0_c none 0 f cap W)
  have hbel := alloc_bel w (.cells #[.slice A 0 c] 22)
  go_enter Try.func37, Try.ntmps37
  go_wp2
  go_loop [3, 7] (fun v i => v = .slice none 0 0 ∧ i = .int .i64 0) (fun _ _ => 0)
  case atStart => exact ⟨rfl, rfl⟩
  case round =>
    obtain ⟨rfl, rfl⟩ := hrel
    go_wp2_with (first | (go_at_call 65; refine (HS.out _ _ _).mono ?_; rintro e_ w_ ⟨rfl, rfl⟩))
    go_ret
    exact ⟨rfl, hbel⟩
set_option maxHeartbeats 1000000 in
theorem orderOf_own_pos (q : List IT) (n : Nat) (hq : q.length = n + 1) (hn : n + 1 ≤ 20) (A : Option Addr) (c : Nat) (w : World) (hr : Rd w A (its q)) :
    Calls Try.prog 37 #[.slice A q.length c] w fun r w' => (∃ A' c', r = .returned (.slice A' q.length c') ∧ Rd w' A' (ints (ordI q)) ∧ q.length ≤ c' ∧ (∀ b o, A' = some ⟨b, o, none⟩ → w.heap.size ≤ b)) ∧ Below w.heap.size w w' := by
  obtain ⟨i0, hi, iz0, iz1, iz2⟩ := info_parts Try.infoN
  have hX := Blk.new w 22 [.slice A q.length c]
  have hbel := alloc_bel w (.cells #[.slice A q.length c] 22)
  have hrW := hr.bel hbel
  generalize hW : w.alloc (.cells #[.slice A q.length c] 22) = W at hX hbel hrW
  have HW := hide hW
  clear hW
  have hlow := hr.low
  have hzW := hX.lt
  have hAq : ∀ b o, A = some ⟨b, o, none⟩ → b < w.heap.size := fun b o e => by
    by_cases hx : its q = []
    · have := congrArg List.length hx
      rw [its_length, List.length_nil] at this
      omega
    · exact hlow hx b o e
  have s1 := hX.cell 0
  simp only [List.getElem?_cons_zero] at s1
  have HQ := hide hq
  have hq1 : n + 1 ≤ q.length := by omega
  have hq2 : q.length ≤ n + 1 := by omega
  clear hq
  go_enter Try.func37, Try.ntmps37
  go_upto_region 1 with fail
  rw [HW.out]
  go_wp2
  go_loopw [3, 7] (fun v i wr => ∃ k : Nat, k ≤ q.length ∧ i = .int .i64 k ∧ Below W.heap.size W wr ∧ wr.ownsRow W.heap.size 3 1 v k (ints (upI k))) (fun _ i _ => q.length - (intOf i).toNat)
  case atStart => exact ⟨0, Nat.zero_le _, rfl, Below.refl _ _, by simpa [upI] using World.ownsRow_nil _ _ _ _⟩
  case round =>
    obtain ⟨k, hk, rfl, hb, hown⟩ := hrel
    have hsz := hb.size
    by_cases hlt : k < q.length
    · go_wp2_with (at_builtin; refine wpList_append_own _ rfl _ _ 29 rfl W.heap.size 3 i0 _ 1 8 Try.underlying29 hi iz0 iz1 iz2 rfl (by decide) _ _ _ rfl (hown.alloc _) ⟨wr.heap.size, 0, none⟩ 1 1 [.int .i64 (k : Int)] rfl rfl (World.news_of_block (heap_alloc_new wr _)) (by simp [Value.oneCell']) (by unfold maxLen; omega) (by omega) (by simp; omega) ?_; intro v' w8 hown8 hg8 _)
      have hb8 : Below W.heap.size W w8 := (bel_alloc hb hsz _).grown hg8 (by simp; omega) (fun j hj => by have := (hown.lt j hj).1; omega)
      go_roundw
      case rel => exact ⟨k + 1, by omega, by go_num, hb8, by rw [upI_succ, ints_append]; exact hown8⟩
      case measure => simp [intOf]; omega
    · have hkn : k = n + 1 := by omega
      rw [hkn] at hown
      obtain ⟨A', c', rfl⟩ := ownsRow_slice hown
      obtain ⟨g, rfl, hg0, hg1, hgc, hH⟩ := holds_up hown
      have hXr := (hb.cell (p := ⟨w.heap.size, 0, none⟩) hzW).trans s1
      have HS := hide (stable_c q n HQ.out hn w.heap.size g c' A c wr hXr (hrW.bel hb) (by omega) (fun b o e => by have := hAq b o e; omega) hH hg1)
      have HF : Hid (∀ W2, SW (encF n) wr g 0 (Sort.insertionSort (wkF q) (idxR n) 0 (n + 1)) W2 → Rd W2 (some ⟨g, 0, none⟩) (ints (ordI q)) ∧ Below w.heap.size w W2) := fun W2 S => ⟨rd_ord HQ.out hH hg1 S, sw_below (bel_tr hbel (by omega) hb) (by omega) S (by omega)⟩
      generalize Sort.insertionSort (wkF q) (idxR n) 0 (n + 1) = d at HS HF
      clear hown hH s1 hXr hkn
      go_wp2_with (first | (go_at_call 65; refine HS.out.mono ?_; rintro e_ w2 ⟨rfl, S2⟩))
      go_ret
      obtain ⟨h1, h2⟩ := HF.out _ S2
      exact ⟨⟨_, _, by rw [HQ.out]; rfl, h1, by omega, fun b o e => by injection e with e; injection e with e1 _; omega⟩, h2⟩
theorem orderOf_own (q : List IT) (hn : q.length ≤ 20) (A : Option Addr) (c : Nat) (w : World) (hr : Rd w A (its q)) :
    Calls Try.prog 37 #[.slice A q.length c] w fun r w' => (∃ A' c', r = .returned (.slice A' q.length c') ∧ Rd w' A' (ints (ordI q)) ∧ q.length ≤ c' ∧ (∀ b o, A' = some ⟨b, o, none⟩ → w.heap.size ≤ b)) ∧ Below w.heap.size w w' := by
  rcases Nat.eq_zero_or_pos q.length with h | h
  · have h2 : ordI q = [] := List.eq_nil_of_length_eq_zero (by rw [ordI_len, h])
    rw [h, h2]
    exact (orderOf_nil A c w).mono fun r w' ⟨h3, h4⟩ => ⟨⟨none, 0, h3, Rd.nil _ _, Nat.le_refl _, fun _ _ e => by cases e⟩, h4⟩
  · exact orderOf_own_pos q (q.length - 1) (by omega) (by omega) A c w hr
theorem orderOf_c (q : List IT) (hn : q.length ≤ 20) (A : Option Addr) (c : Nat) (w : World) (hr : Rd w A (its q)) :
    Calls Try.prog 37 #[.slice A q.length c] w fun r w' => (∃ A' c', r = .returned (.slice A' q.length c') ∧ Rd w' A' (ints (ordI q)) ∧ q.length ≤ c') ∧ Below w.heap.size w w' :=
  (orderOf_own q hn A c w hr).mono fun r w' ⟨⟨A', c', h1, h2, h3, _⟩, h4⟩ => ⟨⟨A', c', h1, h2, h3⟩, h4⟩
theorem stOrderOf_ok (q : List IT) (A : Option Addr) (c : Nat) (w : World) (hr : Rd w A (its q)) (hl : q.length ≤ 20) (hc : q.length ≤ c) (hn : ∀ k (h : k < q.length), q[k].1.size ≤ 1000) (he : (queE q).2 = 0) :
    Calls Try.prog 11 #[.slice A q.length c] w fun r w' => (∃ A' c', r = .returned (.tuple #[.slice A' q.length c', .int .i64 0]) ∧ Rd w' A' (ints (ordI q))) ∧ Below w.heap.size w w' := by
  have HE := hide (fun W (h : Rd W A (its q)) => queueError_c q A c W h (by omega) hc hn)
  rw [he] at HE
  have HO := hide (fun W (h : Rd W A (its q)) => orderOf_c q hl A c W h)
  clear he
  go_enter Try.func11, Try.ntmps11
  go_wp2_with (first
    | (go_at_call 36; refine (HE.out _ hr).mono ?_; rintro e_ w1 ⟨rfl, hb1⟩; have hr1 := hr.bel hb1)
    | (go_at_call 37; refine (HO.out _ hr1).mono ?_; rintro e_ w2 ⟨⟨A', c', rfl, h1, h2⟩, hb2⟩))
  go_ret2
  exact ⟨⟨A', c', rfl, h1⟩, bel_tr hb1 hb1.size hb2⟩
theorem stOrderOf_bad (q : List IT) (A : Option Addr) (c : Nat) (w : World) (hr : Rd w A (its q)) (hl : q.length ≤ 1000) (hc : q.length ≤ c) (hn : ∀ k (h : k < q.length), q[k].1.size ≤ 1000) (he : (queE q).2 ≠ 0) :
    Calls Try.prog 11 #[.slice A q.length c] w fun r w' => r = .returned (.tuple #[.slice none 0 0, .int .i64 (queE q).2]) ∧ Below w.heap.size w w' := by
  have HE := hide (fun W (h : Rd W A (its q)) => queueError_c q A c W h hl hc hn)
  generalize (queE q).2 = e at HE he ⊢
  have e1 : (e != 0) = true := by simpa using he
  clear he
  go_enter Try.func11, Try.ntmps11
  go_wp2_with (first
    | (go_at_call 36; refine (HE.out _ hr).mono ?_; rintro e_ w1 ⟨rfl, hb1⟩))
  go_ret2
  exact ⟨rfl, hb1⟩
theorem queE_len {q : List IT} (h : (queE q).2 = 0) : q.length ≤ 20 := by
  unfold queE at h
  split at h
  · cases h
  · omega
end Go.Proofs.Ytohdjhdkmdhhcaa

/- Contracts: contents, comparisons of ranges, the laws' own sky and trace. -/
import Derived.Test.YtdeehodekilaiaaF14
import Derived.Test.YtdeehodekilaiaaFX
set_option linter.unusedSimpArgs false
set_option linter.unusedVariables false
namespace Go.Proofs.Ytdeehodekilaiaa
open Go.RowKit
set_option maxRecDepth 100000

theorem ranges_c (l m : List (Int × Int)) (A B : Option Addr) (c d : Nat) (w : World) (hr : Rd w A (gs l)) (hs : Rd w B (gs m)) (hl : l.length ≤ 1000) :
    Calls Try.prog 32 #[.slice A l.length c, .slice B m.length d] w fun r w' => r = .returned (.bool (decide (l = m))) ∧ Below w.heap.size w w' := by
  by_cases hn : l.length = m.length
  · have e1 : ((l.length : Int) != (m.length : Int)) = false := by simp; omega
    have hm : m.length ≤ 1000 := by omega
    have HN := hide hn
    clear hn
    go_enter Try.func32, Try.ntmps32
    go_wp2
    go_loopw [5] (fun i wr => ∃ k : Nat, k ≤ l.length ∧ i = .int .i64 k ∧ Below w.heap.size w wr ∧ Hid (∀ j (h : j < l.length) (h' : j < m.length), j < k → l[j] = m[j])) (fun i _ => l.length - (intOf i).toNat)
    case atStart => exact ⟨0, Nat.zero_le _, rfl, Below.refl _ _, fun _ _ _ h => by omega⟩
    case round =>
      obtain ⟨k, hk, rfl, hb, h0⟩ := hrel
      by_cases hlt : k < l.length
      · have hlt' : k < m.length := by have := HN.out; omega
        obtain ⟨b, off, rfl, hblt, hc0, hc1⟩ := (hr.bel hb).g_at hlt
        obtain ⟨b', off', rfl, hblt', hc0', hc1'⟩ := (hs.bel hb).g_at hlt'
        by_cases hz : l[k] = m[k]
        · have H1 : Hid (∀ j (h : j < l.length) (h' : j < m.length), j < k + 1 → l[j] = m[j]) := fun j h h' hj => by
            by_cases e : j = k
            · subst e; exact hz
            · exact h0.out j h h' (by omega)
          rw [← hz] at hc0' hc1'
          clear hz
          generalize l[k] = g at hc0 hc1 hc0' hc1'
          obtain ⟨ga, gb⟩ := g
          dsimp only at hc0 hc1 hc0' hc1'
          go_wp2
          go_quiet (fail)
          go_wp2
          go_roundw
          case rel => exact ⟨k + 1, by omega, by go_num, below_drewN hb _, H1⟩
          case measure => simp [intOf]; omega
        · have H : Hid (decide (l = m) = false) := by show decide (l = m) = false; simp; rintro rfl; exact hz rfl
          generalize l[k] = g at hc0 hc1 hz
          generalize m[k] = g' at hc0' hc1' hz
          obtain ⟨ga, gb⟩ := g
          obtain ⟨ga', gb'⟩ := g'
          dsimp only at hc0 hc1 hc0' hc1'
          by_cases h1 : ga = ga'
          · subst h1
            have h2 : ¬ gb = gb' := fun e => hz (by rw [e])
            clear hz
            go_wp2
            go_quiet (fail)
            go_wp2
            go_ret
            exact ⟨by rw [H.out]; rfl, below_drewN hb _⟩
          · clear hz
            go_wp2
            go_quiet (fail)
            go_wp2
            go_ret
            exact ⟨by rw [H.out]; rfl, below_drewN hb _⟩
      · have H : Hid (decide (l = m) = true) := by
          show decide (l = m) = true
          simp
          refine List.ext_getElem HN.out fun j h h' => h0.out j h h' (by omega)
        go_wp2
        go_ret
        exact ⟨by rw [H.out]; rfl, hb⟩
  · have H : Hid (decide (l = m) = false) := by show decide (l = m) = false; simp; rintro rfl; exact hn rfl
    have e1 : ((l.length : Int) != (m.length : Int)) = true := by simp; omega
    clear hn
    go_enter Try.func32, Try.ntmps32
    go_wp2
    go_ret
    exact ⟨by rw [H.out]; rfl, Below.refl _ _⟩

theorem sky_c (w : World) : Calls Try.prog 29 #[] w fun r w' => (∃ A, r = .returned (.agg #[.int .i64 100, .slice A 2 2]) ∧ Rd w' A (gs skyL)) ∧ Below w.heap.size w w' := by
  obtain ⟨WE, hWE⟩ : ∃ WE, (w.alloc (.cells #[.int .i64 100, .slice (some ⟨w.heap.size + 1, 0, none⟩) 2 2] 24)).alloc (.cells #[.int .i64 90000, .int .i64 20, .int .i64 250000, .int .i64 10] 47) = WE := ⟨_, rfl⟩
  have hE : Blk WE w.heap.size 24 [.int .i64 100, .slice (some ⟨w.heap.size + 1, 0, none⟩) 2 2] := by rw [← hWE]; exact (two_new w _ _ [.int .i64 100, .slice (some ⟨w.heap.size + 1, 0, none⟩) 2 2] [.int .i64 90000, .int .i64 20, .int .i64 250000, .int .i64 10]).1
  have hF : Blk WE (w.heap.size + 1) 47 [.int .i64 90000, .int .i64 20, .int .i64 250000, .int .i64 10] := by rw [← hWE]; exact (two_new w _ _ [.int .i64 100, .slice (some ⟨w.heap.size + 1, 0, none⟩) 2 2] [.int .i64 90000, .int .i64 20, .int .i64 250000, .int .i64 10]).2.1
  have hB : Below w.heap.size w WE := by rw [← hWE]; exact (two_new w _ _ [.int .i64 100, .slice (some ⟨w.heap.size + 1, 0, none⟩) 2 2] [.int .i64 90000, .int .i64 20, .int .i64 250000, .int .i64 10]).2.2
  have HW := hide hWE
  clear hWE
  go_enter Try.func29, Try.ntmps29
  go_wp2
  rw [HW.out]
  have c0 := hE.cell 0; have c1 := hE.cell 1; simp only [List.getElem?_cons_zero, List.getElem?_cons_succ] at c0 c1
  exact bodyPost_ret (v := .agg #[.int .i64 100, .slice (some ⟨w.heap.size + 1, 0, none⟩) 2 2]) (by simp [results, Try.results29, go_sem, c0, c1]; try rfl) rfl ⟨⟨_, rfl, hF.rd (List.prefix_refl _)⟩, hB⟩

theorem trace_c (w : World) : Calls Try.prog 30 #[] w fun r w' => (∃ A, r = .returned (.agg #[.slice A 2 2, .int .i64 0, .int .i64 0]) ∧ Rd w' A (ps trL)) ∧ Below w.heap.size w w' := by
  obtain ⟨WE, hWE⟩ : ∃ WE, (w.alloc (.cells #[.slice (some ⟨w.heap.size + 1, 0, none⟩) 2 2, .int .i64 0, .int .i64 0] 30)).alloc (.cells #[.int .i64 300, .int .i64 99, .int .i64 101, .int .i64 500, .int .i64 124, .int .i64 126] 55) = WE := ⟨_, rfl⟩
  have hE : Blk WE w.heap.size 30 [.slice (some ⟨w.heap.size + 1, 0, none⟩) 2 2, .int .i64 0, .int .i64 0] := by rw [← hWE]; exact (two_new w _ _ [.slice (some ⟨w.heap.size + 1, 0, none⟩) 2 2, .int .i64 0, .int .i64 0] [.int .i64 300, .int .i64 99, .int .i64 101, .int .i64 500, .int .i64 124, .int .i64 126]).1
  have hF : Blk WE (w.heap.size + 1) 55 [.int .i64 300, .int .i64 99, .int .i64 101, .int .i64 500, .int .i64 124, .int .i64 126] := by rw [← hWE]; exact (two_new w _ _ [.slice (some ⟨w.heap.size + 1, 0, none⟩) 2 2, .int .i64 0, .int .i64 0] [.int .i64 300, .int .i64 99, .int .i64 101, .int .i64 500, .int .i64 124, .int .i64 126]).2.1
  have hB : Below w.heap.size w WE := by rw [← hWE]; exact (two_new w _ _ [.slice (some ⟨w.heap.size + 1, 0, none⟩) 2 2, .int .i64 0, .int .i64 0] [.int .i64 300, .int .i64 99, .int .i64 101, .int .i64 500, .int .i64 124, .int .i64 126]).2.2
  have HW := hide hWE
  clear hWE
  go_enter Try.func30, Try.ntmps30
  go_wp2
  rw [HW.out]
  have c0 := hE.cell 0; have c1 := hE.cell 1; have c2 := hE.cell 2; simp only [List.getElem?_cons_zero, List.getElem?_cons_succ] at c0 c1 c2
  exact bodyPost_ret (v := .agg #[.slice (some ⟨w.heap.size + 1, 0, none⟩) 2 2, .int .i64 0, .int .i64 0]) (by simp [results, Try.results30, go_sem, c0, c1, c2]; try rfl) rfl ⟨⟨_, rfl, hF.rd (List.prefix_refl _)⟩, hB⟩

/-- The answer of ContentOf. -/
def contR (base : Int) (l : List G) : Int × Int := if (proE base l).2 = 0 then (content l l.length, 0) else (0, (proE base l).2)
set_option maxHeartbeats 1000000 in
theorem contentOf_c (base : Int) (A : Option Addr) (c : Nat) (l : List G) (w : World) (hr : Rd w A (gs l)) (hl : l.length ≤ 1000) :
    Calls Try.prog 31 #[.agg #[.int .i64 base, .slice A l.length c]] w fun r w' => r = .returned (.tuple #[.int .i64 (contR base l).1, .int .i64 (contR base l).2]) ∧ Below w.heap.size w w' := by
  have HE := hide (fun W h => profileError_c base A c l W h hl)
  by_cases he : (proE base l).2 = 0
  · have hS := (proE_zero he).slabs
    have HR : Hid (contR base l = (content l l.length, 0)) := by show _ = _; unfold contR; rw [if_pos he]
    rw [he] at HE
    have hn := hS.n1
    have HS := hide (fun k h => content_step hS (k := k) h)
    have HB := hide (fun k h => content_bd hS (k := k) h)
    clear he hS
    go_enter Try.func31, Try.ntmps31
    go_wp2_with (first | (go_at_call 34; refine (HE.out _ (hr.alloc _)).mono ?_; rintro e w1 ⟨rfl, hb1⟩; have hX1 : Blk w1 w.heap.size 24 [.int .i64 base, .slice A l.length c] := (Blk.new w 24 [.int .i64 base, .slice A l.length c]).bel hb1; have c0 := hX1.cell 0; have c1 := hX1.cell 1; simp only [List.getElem?_cons_zero, List.getElem?_cons_succ] at c0 c1; have hlt := hX1.lt))
    have hr1 := (hr.alloc _).bel hb1
    have hB1 : Below w.heap.size w w1 := bel_tr (alloc_bel _ _) (by simp) hb1
    clear hb1 c0 c1 hX1 hlt hr HE
    go_loopw [5, 16] (fun s i wr => ∃ k : Nat, k ≤ l.length ∧ i = .int .i64 k ∧ s = .int .i64 (content l k) ∧ Below w1.heap.size w1 wr) (fun _ i _ => l.length - (intOf i).toNat)
    case atStart => exact ⟨0, Nat.zero_le _, rfl, rfl, Below.refl _ _⟩
    case round =>
      obtain ⟨k, hk, rfl, rfl, hb⟩ := hrel
      by_cases hlt : k < l.length
      · obtain ⟨b, off, rfl, hblt, hc0, hc1⟩ := (hr1.bel hb).g_at hlt
        have h1 := HS.out k hlt
        have h2 := HB.out k (by omega)
        have HC : Hid (content l (k + 1) = content l k + (l.getD k G0).1 * (l.getD k G0).2) := rfl
        rw [getD_at hlt] at h1 HC
        generalize content l k = C at h2 HC ⊢
        have hm : ∃ M, l[k].1 * l[k].2 = M := ⟨_, rfl⟩
        generalize l[k].1 = sq at hc0 h1 HC hm
        generalize l[k].2 = t at hc1 h1 HC hm
        obtain ⟨M, hM⟩ := hm
        rw [hM] at h1 HC
        go_wp2
        go_roundw
        case rel => exact ⟨k + 1, by omega, by go_num, by rw [HC.out], bel_alloc hb hb.size _⟩
        case measure => simp [intOf]; omega
      · obtain rfl : k = l.length := by omega
        go_wp2
        go_ret2
        exact ⟨by rw [HR.out]; rfl, bel_tr hB1 hB1.size hb⟩
  · have e1 : ((proE base l).2 != 0) = true := by simpa using he
    have HR : Hid (contR base l = (0, (proE base l).2)) := by show _ = _; unfold contR; rw [if_neg he]
    clear he
    generalize (proE base l).2 = E at HE HR e1
    go_enter Try.func31, Try.ntmps31
    go_wp2_with (first | (go_at_call 34; refine (HE.out _ (hr.alloc _)).mono ?_; rintro e w1 ⟨rfl, hb1⟩))
    go_ret2
    exact ⟨by rw [HR.out]; rfl, bel_tr (alloc_bel _ _) (by simp) hb1⟩
end Go.Proofs.Ytdeehodekilaiaa

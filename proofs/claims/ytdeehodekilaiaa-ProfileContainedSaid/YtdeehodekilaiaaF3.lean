/- Contracts: a search by halves; indexes. -/
import Derived.Test.YtdeehodekilaiaaF2
set_option linter.unusedSimpArgs false
set_option linter.unusedVariables false
namespace Go.Proofs.Ytdeehodekilaiaa
open Go.RowKit
set_option maxRecDepth 100000

/-- The least number for which a growing test holds, or n. -/
def IsLeast (n : Nat) (p : Nat → Bool) (i : Nat) : Prop := i ≤ n ∧ (∀ j, j < i → p j = false) ∧ (i < n → p i = true)
theorem search_c (n : Nat) (hn : n ≤ 1000000000) (f : FuncId) (cap : Array Value) (p : Nat → Bool) (w : World) (hE : ∀ (args : Array Value) (W : World), (callFunc f args).run Try.prog W = .ok (.enter f args) W)
    (hmono : ∀ a b, a ≤ b → b < n → p a = true → p b = true)
    (hchk : ∀ k, k < n → ∀ W : World, Below w.heap.size w W → Calls Try.prog f (#[.int .i64 (k : Nat)] ++ cap) W fun r W' => r = .returned (.bool (p k)) ∧ Below W.heap.size W W') :
    Calls Try.prog 69 #[.int .i64 n, .func (.func f) #[] cap] w fun r w' => (∃ i : Nat, r = .returned (.int .i64 i) ∧ IsLeast n p i) ∧ Below w.heap.size w w' := by
  have HC := hide hchk
  have HM := hide hmono
  clear hchk hmono
  go_enter Try.func69, Try.ntmps69
  go_wp2
  go_loopw [5, 6] (fun i j wr => ∃ a b : Nat, a ≤ b ∧ b ≤ n ∧ i = .int .i64 a ∧ j = .int .i64 b ∧ Below w.heap.size w wr ∧ Hid (∀ k, k < a → p k = false) ∧ Hid (b < n → p b = true)) (fun i j _ => (intOf j).toNat - (intOf i).toNat)
  case atStart => exact ⟨0, n, Nat.zero_le _, Nat.le_refl _, rfl, rfl, Below.refl _ _, fun _ h => by omega, fun h => by omega⟩
  case round =>
    obtain ⟨a, b, hab, hbn, rfl, rfl, hb, h0, h1⟩ := hrel
    by_cases hlt : a < b
    · obtain ⟨h, hh⟩ : ∃ h : Nat, (a + b) / 2 = h := ⟨_, rfl⟩
      have h2 : a ≤ h := by omega
      have h3 : h < b := by omega
      have hI : ((a : Int) + b) / 2 = (h : Int) := by omega
      have H0 := hide h0.out
      clear hh
      go_upto_region 4 with fail
      clear hI
      by_cases hp : p h = true
      · have HA := hide ((HC.out h (by omega) wr hb).mono (R' := fun r W' => r = .returned (.bool true) ∧ Below wr.heap.size wr W') fun _ _ ⟨x, y⟩ => ⟨by rw [x, hp], y⟩)
        have HP : Hid (h < n → p h = true) := fun _ => hp
        clear hp
        go_wp2_with (refine HA.out.mono ?_; rintro e w1 ⟨rfl, hb1⟩)
        go_roundw
        case rel => exact ⟨a, h, h2, by omega, rfl, rfl, tr hb hb1 hb.size, H0, HP⟩
        case measure => simp [intOf]; omega
      · have hp' : p h = false := by simpa using hp
        have HA := hide ((HC.out h (by omega) wr hb).mono (R' := fun r W' => r = .returned (.bool false) ∧ Below wr.heap.size wr W') fun _ _ ⟨x, y⟩ => ⟨by rw [x, hp'], y⟩)
        have HP : Hid (∀ k, k < h + 1 → p k = false) := fun k hk => by
          cases hx : p k with
          | false => rfl
          | true => exact absurd (HM.out k h (by omega) (by omega) hx) hp
        clear hp hp'
        go_wp2_with (refine HA.out.mono ?_; rintro e w1 ⟨rfl, hb1⟩)
        go_roundw
        case rel => exact ⟨h + 1, b, by omega, hbn, by go_num, rfl, tr hb hb1 hb.size, HP, h1⟩
        case measure => simp [intOf]; omega
    · obtain rfl : a = b := by omega
      go_wp2
      go_ret
      exact ⟨⟨a, rfl, hbn, h0.out, h1.out⟩, hb⟩

theorem indexOf1_c (m B : Nat) (least : Int) (w : World) (hB : w.cell? ⟨B, 0, none⟩ = some (.int .i64 least)) (hm : m ≤ 3000000) :
    Calls Try.prog 70 (#[.int .i64 m] ++ #[.pointer (some ⟨B, 0, none⟩)]) w fun r w' => r = .returned (.bool (decide (least ≤ (m : Int) * m))) ∧ Below w.heap.size w w' := by
  rw [show (#[.int .i64 (m : Int)] ++ #[.pointer (some ⟨B, 0, none⟩)] : Array Value) = #[.int .i64 (m : Int), .pointer (some ⟨B, 0, none⟩)] from rfl]
  have hmm := mul_bd (show 0 ≤ (m : Int) by omega) (show (m : Int) ≤ 3000000 by omega) (show 0 ≤ (m : Int) by omega) (show (m : Int) ≤ 3000000 by omega)
  go_enter Try.func70, Try.ntmps70
  go_wp2
  go_ret
  exact ⟨rfl, Below.refl _ _⟩

theorem indexOf_c (sq f : Int) (w : World) (h1 : 1 ≤ f) (h2 : f ≤ 3000) (h0 : 0 ≤ sq) (hs : sq < f * f) :
    Calls Try.prog 61 #[.int .i64 sq, .int .i64 f] w fun r w' => r = .returned (.agg #[.int .i64 (idx sq f).1, .int .i64 (idx sq f).2]) ∧ Below w.heap.size w w' := by
  have hff := mul_bd (show 0 ≤ f by omega) h2 (show 0 ≤ f by omega) h2
  have hA : 1000000 * f * f = 1000000 * (f * f) := by rw [Int.mul_assoc]
  have hup : up (1000000 * f * f) (f * f - sq) ≤ 9000000000000 := by
    have h3 := up_self (n := 1000000 * f * f) (d := f * f - sq) (by omega) (by omega)
    omega
  obtain ⟨least, hl⟩ : ∃ least, up (1000000 * f * f) (f * f - sq) = least := ⟨_, rfl⟩
  obtain ⟨d, hd⟩ : ∃ d, f * f - sq = d := ⟨_, rfl⟩
  obtain ⟨N, hN⟩ : ∃ N : Nat, (N : Int) = 1000 * f := ⟨(1000 * f).toNat, by omega⟩
  have hmono : ∀ a b : Nat, a ≤ b → b < N → decide (least ≤ (a : Int) * a) = true → decide (least ≤ (b : Int) * b) = true := fun a b hab _ ha => by
    have h3 := Int.mul_le_mul (show (a : Int) ≤ b by omega) (show (a : Int) ≤ b by omega) (by omega) (by omega)
    simp only [decide_eq_true_eq] at ha ⊢
    omega
  have HS := hide (fun (B : Nat) (W : World) (hB : W.cell? ⟨B, 0, none⟩ = some (.int .i64 least)) => search_c N (by omega) 70 #[.pointer (some ⟨B, 0, none⟩)] (fun m => decide (least ≤ (m : Int) * m)) W Try.call70 hmono
    (fun k hk W' hb => indexOf1_c k B least W' ((hb.cell (p := ⟨B, 0, none⟩) (World.block_lt_of_cell? _ _ hB)).trans hB) (by omega)))
  have hX := Blk.new w 51 [.int .i64 0, .int .i64 0]
  have hA2 : 0 ≤ 1000000 * f * f ∧ 1000000 * f * f ≤ 9000000000000 := by omega
  have hN' : 1000 * f = (N : Int) := hN.symm
  have hX1 : Blk ((w.alloc (.cells #[.int .i64 0, .int .i64 0] 51)).alloc (.cells #[.int .i64 least] 3)) w.heap.size 51 [.int .i64 0, .int .i64 0] := hX.bel (alloc_bel _ _)
  have hb1 : Below w.heap.size w ((w.alloc (.cells #[.int .i64 0, .int .i64 0] 51)).alloc (.cells #[.int .i64 least] 3)) := bel_alloc (alloc_bel w _) (by simp) _
  have HD := hide hd
  have HN := hide hN
  clear hN hd hmono hA hX
  go_enter Try.func61, Try.ntmps61
  go_upto_region 5 with (first
    | (go_at_call 45; refine (dividedUp_c _ _ _ (by omega) (by omega) (by omega) (by omega)).mono ?_; rintro e_ w_ ⟨rfl, rfl⟩)
    | (go_at_call 69; refine (HS.out _ _ (by simp)).mono ?_; rintro e w2 ⟨⟨i, rfl, hi⟩, hb2⟩))
  have hX2 := hX1.bel hb2
  have hbw := bel_tr hb1 (by simp; omega) hb2
  obtain ⟨i1, i2, i3⟩ := hi
  have hge : least ≤ (i : Int) * i := by
    rcases Nat.lt_or_ge i N with h | h
    · simpa using i3 h
    · have e : i = N := by omega
      have h3 := up_self (n := 1000000 * f * f) (d := f * f - sq) (by omega) hA2.1
      rw [e, ← hN', Int.mul_assoc, Int.mul_left_comm f 1000 f]
      have h4 : 1000000 * f * f = 1000000 * (f * f) := Int.mul_assoc _ _ _
      omega
  have hlt : 0 < (i : Int) → ((i : Int) - 1) * ((i : Int) - 1) < least := fun h => by
    have := i2 (i - 1) (by omega)
    rw [decide_eq_false_iff_not, show ((i - 1 : Nat) : Int) = (i : Int) - 1 by omega] at this
    omega
  have HI := hide (idx_search (hi := (i : Int)) h1 hs (by omega) (by rw [hl]; exact hge) (by rw [hl]; exact hlt))
  have hbig := idx_big h1 h2 h0 hs (by omega) (show (i : Int) ≤ 1000 * f by omega) (by rw [hl]; exact hlt)
  have hii := mul_bd (show 0 ≤ (i : Int) by omega) (show (i : Int) ≤ 3000000 by omega) (show 0 ≤ (i : Int) by omega) (show (i : Int) ≤ 3000000 by omega)
  have hiB : i ≤ 3000000 := by omega
  have hf0 := hX2.frozen 0
  have hf1 := hX2.frozen 1
  have d0 := hX2.cell 0
  have d1 := hX2.cell 1
  simp only [List.getElem?_cons_zero, List.getElem?_cons_succ] at d0 d1
  clear i2 i3 hge hlt hX1 hb1 hb2 hl hup HS HD HN hN'
  by_cases he : (i : Int) * i * (f * f - sq) = 1000000 * f * f
  · have e1 : ((i : Int) * i * (f * f - sq) == 1000000 * f * f) = true := by simpa using he
    have HR : Hid (idx sq f = ((i : Int), (i : Int))) := by show _ = _; rw [HI.out, if_pos he]
    clear he
    go_wp2
    obtain ⟨WE, hWE⟩ : ∃ WE, (w2.setCell ⟨w.heap.size, 0, none⟩ (.int .i64 i)).setCell ⟨w.heap.size, 1, none⟩ (.int .i64 i) = WE := ⟨_, rfl⟩
    rw [hWE]
    have hE : Blk WE w.heap.size 51 [.int .i64 i, .int .i64 i] := by rw [← hWE]; exact (hX2.set_ 0 _).set_ 1 _
    have hBE : Below w.heap.size w WE := by rw [← hWE]; exact (hbw.setCell (Nat.le_refl _) _).setCell (Nat.le_refl _) _
    clear hWE
    have g0 := hE.cell 0; have g1 := hE.cell 1; simp only [List.getElem?_cons_zero, List.getElem?_cons_succ] at g0 g1
    exact bodyPost_ret (v := .agg #[.int .i64 i, .int .i64 i]) (by simp [results, Try.results61, go_sem, g0, g1]; try rfl) rfl ⟨by rw [HR.out], hBE⟩
  · have e1 : ((i : Int) * i * (f * f - sq) == 1000000 * f * f) = false := by simpa using he
    have HR : Hid (idx sq f = ((i : Int) - 1, (i : Int))) := by show _ = _; rw [HI.out, if_neg he]
    clear he
    go_wp2
    obtain ⟨WE, hWE⟩ : ∃ WE, (w2.setCell ⟨w.heap.size, 0, none⟩ (.int .i64 ((i : Int) - 1))).setCell ⟨w.heap.size, 1, none⟩ (.int .i64 i) = WE := ⟨_, rfl⟩
    rw [hWE]
    have hE : Blk WE w.heap.size 51 [.int .i64 ((i : Int) - 1), .int .i64 i] := by rw [← hWE]; exact (hX2.set_ 0 _).set_ 1 _
    have hBE : Below w.heap.size w WE := by rw [← hWE]; exact (hbw.setCell (Nat.le_refl _) _).setCell (Nat.le_refl _) _
    clear hWE
    have g0 := hE.cell 0; have g1 := hE.cell 1; simp only [List.getElem?_cons_zero, List.getElem?_cons_succ] at g0 g1
    exact bodyPost_ret (v := .agg #[.int .i64 ((i : Int) - 1), .int .i64 i]) (by simp [results, Try.results61, go_sem, g0, g1]; try rfl) rfl ⟨by rw [HR.out], hBE⟩
end Go.Proofs.Ytdeehodekilaiaa

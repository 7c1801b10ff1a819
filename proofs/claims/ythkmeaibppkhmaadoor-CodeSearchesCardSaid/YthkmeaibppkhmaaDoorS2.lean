/- Contracts: the first best code and the partners of a code, as the reference has them. -/
import Derived.Test.YthkmeaibppkhmaaDoorS1
import Derived.Maps.AppendAt
namespace Go.Proofs.YthkmeaibppkhmaaDoor
open Go.RowKit
set_option maxRecDepth 100000

/-- The first best of the first n codes of a length, and its side lobe. -/
def bestS (len : Nat) : Nat → Option Nat × Int
  | 0 => (none, len)
  | n + 1 => if sideTo (codeL n len) (len - 1) < (bestS len n).2 then (some n, sideTo (codeL n len) (len - 1)) else bestS len n

theorem sideTo_bd {c : List Int} (hc : Small c) : ∀ k, k < c.length → 0 ≤ sideTo c k ∧ sideTo c k ≤ (c.length : Int) - 1 := by
  intro k
  induction k with
  | zero => intro h; simp [sideTo]; omega
  | succ k ih =>
    intro h
    obtain ⟨h1, h2⟩ := ih (by omega)
    have h3 := corrTo_bd hc hc (k + 1) (c.length - (k + 1))
    have h4 : -((c.length - (k + 1) : Nat) : Int) ≤ corrN c c (k + 1) ∧ corrN c c (k + 1) ≤ (c.length - (k + 1) : Nat) := h3
    simp only [sideTo]
    generalize corrN c c (k + 1) = x at h4 ⊢
    generalize sideTo c k = y at h1 h2 ⊢
    repeat' (first | omega | split)

theorem bestS_some {len : Nat} (hl : 1 ≤ len) : ∀ n, 1 ≤ n → ∃ b s, bestS len n = (some b, s) := by
  intro n
  induction n with
  | zero => intro h; omega
  | succ n ih =>
    intro _
    simp only [bestS]
    by_cases h0 : n = 0
    · subst h0
      have h := (sideTo_bd (small_codeL 0 len) (len - 1) (by rw [codeL_length]; omega)).2
      rw [codeL_length] at h
      have h2 : sideTo (codeL 0 len) (len - 1) < (bestS len 0).2 := by show _ < ((len : Nat) : Int); omega
      rw [if_pos h2]; exact ⟨_, _, rfl⟩
    · split
      · exact ⟨_, _, rfl⟩
      · exact ih (by omega)

theorem pow_facts {len : Nat} (hl : len ≤ 10) : ∃ N : Nat, Hid (2 ^ len = N) ∧ wrap64 ((2 : Int) ^ len) = (N : Int) ∧ N ≤ 1024 ∧ 1 ≤ N := by
  have h2 : 2 ^ len ≤ 2 ^ 10 := Nat.pow_le_pow_right (by omega) hl
  have h1 : 1 ≤ 2 ^ len := Nat.one_le_two_pow
  refine ⟨2 ^ len, rfl, ?_, h2, h1⟩
  have e : ((2 ^ len : Nat) : Int) = (2 : Int) ^ len := by simp
  rw [← e]
  generalize 2 ^ len = M at h2
  exact wrap64_id (by omega) (by omega)

/-- What a variable with the best code holds. -/
def BestAt (len k : Nat) (v t : Value) (W : World) : Prop := (k = 0 ∧ v = .slice none 0 0 ∧ t = .int .i64 0) ∨ ∃ (b : Nat) (s : Int) (A : Option Addr) (c : Nat), bestS len k = (some b, s) ∧ v = .slice A len c ∧ t = .int .i64 s ∧ RdT W 3 A (ints (codeL b len))

set_option maxHeartbeats 1000000 in
theorem refFirstBest_c (len : Nat) (h1 : 1 ≤ len) (hl : len ≤ 10) (w : World) :
    Calls Tryd.prog 30 #[.int .i64 len] w fun r w' => (∃ (b : Nat) (s : Int) (A : Option Addr) (c : Nat), bestS len (2 ^ len) = (some b, s) ∧ r = .returned (.tuple #[.slice A len c, .int .i64 s]) ∧ RdT w' 3 A (ints (codeL b len))) ∧ Below w.heap.size w w' := by
  obtain ⟨N, hN, hw2, hN2, hN1⟩ := pow_facts hl
  rw [hN.out]
  have HCO := hide (fun (k : Nat) (hk : k < N) W => refCodeOf_c k len (by omega) (by omega) W)
  have HSL := hide (fun (k : Nat) (A : Option Addr) (c : Nat) W (h : Rd W A (ints (codeL k len))) => refSidelobe_c (codeL k len) A c W h (small_codeL k len) (by rw [codeL_length]; omega) (by rw [codeL_length]; omega))
  simp only [codeL_length] at HSL
  go_enter Tryd.func30, Tryd.ntmps30
  go_wp2
  go_loopw [4, 5, 6] (fun v t i wr => ∃ k : Nat, k ≤ N ∧ i = .int .i64 k ∧ Below w.heap.size w wr ∧ BestAt len k v t wr) (fun _ _ i _ => N - (intOf i).toNat)
  case atStart => exact ⟨0, Nat.zero_le _, rfl, Below.refl _ _, .inl ⟨rfl, rfl, rfl⟩⟩
  case round =>
    obtain ⟨k, hk, rfl, hbr, hbest⟩ := hrel
    by_cases hlt : k < N
    · have HC := hide (HCO.out k hlt)
      have HF : Hid (bestS len (k + 1) = if sideTo (codeL k len) (len - 1) < (bestS len k).2 then (some k, sideTo (codeL k len) (len - 1)) else bestS len k) := rfl
      have hsb := sideTo_bd (small_codeL k len) (len - 1) (by rw [codeL_length]; omega)
      rw [codeL_length] at hsb
      have HSk := hide (fun (A : Option Addr) (c : Nat) W (h : Rd W A (ints (codeL k len))) => HSL.out k A c W h)
      have HK : Hid (∃ n, n = sideTo (codeL k len) (len - 1)) := ⟨_, rfl⟩
      obtain ⟨s', hs'⟩ := HK.out
      have HS' := hide hs'
      rw [← hs'] at hsb HSk HF
      clear hs' HK
      rcases hbest with ⟨rfl, rfl, rfl⟩ | ⟨b, s, A, c, hb, rfl, rfl, hA⟩
      · have hnew : Hid (bestS len (0 + 1) = (some 0, s')) := by
          show _ = _
          rw [HF.out, if_pos]
          show s' < ((len : Nat) : Int); omega
        clear HF HCO HSL
        go_wp2_with (first
          | (go_at_call 103; refine (HC.out _).mono ?_; rintro e w3 ⟨⟨A3, c3, rfl, hA3⟩, hb3⟩)
          | (go_at_call 23; refine (HSk.out A3 c3 _ hA3.1).mono ?_; rintro e w4 ⟨rfl, n4, rfl⟩))
        go_roundw
        case rel => exact ⟨0 + 1, by omega, by go_num, below_drewN (bel_tr hbr hbr.size hb3) _, .inr ⟨0, s', A3, c3, hnew.out, rfl, rfl, hA3⟩⟩
        case measure => simp [intOf]; omega
      · have e1 : ((len : Int) == 0) = false := beq_eq_false_iff_ne.2 (by omega)
        by_cases hss : s' < s
        · have hnew : Hid (bestS len (k + 1) = (some k, s')) := by show _ = _; rw [HF.out, hb, if_pos hss]
          clear HF HCO HSL hb
          go_wp2_with (first
            | (go_at_call 103; refine (HC.out _).mono ?_; rintro e w3 ⟨⟨A3, c3, rfl, hA3⟩, hb3⟩)
            | (go_at_call 23; refine (HSk.out A3 c3 _ hA3.1).mono ?_; rintro e w4 ⟨rfl, n4, rfl⟩))
          go_roundw
          case rel => exact ⟨k + 1, by omega, by go_num, below_drewN (bel_tr hbr hbr.size hb3) _, .inr ⟨k, s', A3, c3, hnew.out, rfl, rfl, hA3⟩⟩
          case measure => simp [intOf]; omega
        · have hnew : Hid (bestS len (k + 1) = (some b, s)) := by show _ = _; rw [HF.out, hb, if_neg hss]
          clear HF HCO HSL hb
          go_wp2_with (first
            | (go_at_call 103; refine (HC.out _).mono ?_; rintro e w3 ⟨⟨A3, c3, rfl, hA3⟩, hb3⟩)
            | (go_at_call 23; refine (HSk.out A3 c3 _ hA3.1).mono ?_; rintro e w4 ⟨rfl, n4, rfl⟩))
          go_roundw
          case rel => exact ⟨k + 1, by omega, by go_num, below_drewN (bel_tr hbr hbr.size hb3) _, .inr ⟨b, s, A, c, hnew.out, rfl, rfl, hA.bel (below_drewN hb3 _)⟩⟩
          case measure => simp [intOf]; omega
    · obtain rfl : k = N := by omega
      rcases hbest with ⟨h, _⟩ | ⟨b, s, A, c, hb, rfl, rfl, hA⟩
      · omega
      · have hb := hide hb
        go_wp2
        go_ret2
        exact ⟨⟨b, s, A, c, hb.out, rfl, hA⟩, hbr⟩

theorem codeItem_pm {x : Int} (h : x = 1 ∨ x = -1) : codeItem x = 0 := by unfold codeItem; rw [if_pos h]
theorem codeE_codeL (b len : Nat) (h1 : 1 ≤ len) (h2 : len ≤ 32) : codeE (codeL b len) = 0 := by
  have e : firstBadFrom (fun _ n => codeItem n) 0 (codeL b len) = (0, 0) := firstBadFrom_none _ _ _ fun i hi => codeItem_pm (by
    obtain ⟨j, _, h⟩ := List.mem_map.1 (List.getElem_mem hi)
    rw [← h]; exact bitAt_pm b len j)
  have e0 : lenE (len : Int) 32 = 0 := by rw [lenE_eq, if_neg (by omega), if_neg (by omega)]
  unfold codeE
  rw [codeL_length, if_pos e0, e]
theorem pairP_part {l : List Int} (hc : codeE l = 0) (h2 : l.length ≤ 32) (b : Nat) : (pairP l (codeL b l.length)).2 = if lobe l (codeL b l.length) = 0 then 0 else 13 := by
  have h1 := (codeE_zero hc).1
  unfold pairP
  rw [if_neg (by omega), if_neg (by rw [codeE_codeL b l.length h1 h2]; omega), if_neg (by rw [codeL_length]; omega)]
  split <;> rfl

theorem own_keepT {W W' : World} {base n size : Nat} {t e : TypeId} {v : Value} {xs : List Value} (h : W.ownsRow base e size v n xs) (hg : W.grownBy W' v.ownBlock) (hne : t ≠ e) : KeepT t W W' :=
  KeepT.grown hg (fun k hk => by
    rcases h.2 with ⟨rfl, _⟩ | ⟨g, cap, cur, rfl, _, hh, _⟩
    · simp [Value.ownBlock] at hk
    · obtain rfl : g = k := by simpa [Value.ownBlock] using hk
      exact ⟨_, _, hh⟩) hne

set_option maxHeartbeats 1000000 in
theorem refPartnersOf_c (l : List Int) (A : Option Addr) (c : Nat) (w : World) (hr : Rd w A (ints l)) (hc : codeE l = 0) (hl : l.length ≤ 10) :
    Calls Tryd.prog 33 #[.slice A l.length c] w fun r w' => (∃ A' c' vs, r = .returned (.slice A' vs.length c') ∧ Rd w' A' vs ∧ Lists w' vs (partL l (List.range (2 ^ l.length)))) ∧ Below w.heap.size w w' := by
  obtain ⟨i0, hi, iz0, iz1, iz2⟩ := info_parts Tryd.info22
  obtain ⟨N, hN, hw2, hN2, hN1⟩ := pow_facts hl
  rw [hN.out]
  have hl1 := (codeE_zero hc).1
  have HCO := hide (fun (k : Nat) (hk : k < N) W => refCodeOf_c k l.length (by omega) (by omega) W)
  have HPE := hide (fun (k : Nat) (B : Option Addr) (d : Nat) W (h1 : Rd W A (ints l)) (h2 : Rd W B (ints (codeL k l.length))) => refPairErr_c l (codeL k l.length) A B c d W h1 h2 (by omega) (by rw [codeL_length]; omega))
  have HPP := hide (fun k => pairP_part hc (by omega) k)
  simp only [codeL_length] at HPE
  have HPE := hide HPE.out
  clear hc
  go_enter Tryd.func33, Tryd.ntmps33
  go_wp2
  go_loopw [3, 4] (fun v i wr => ∃ (k : Nat) (vs : List Value), k ≤ N ∧ i = .int .i64 k ∧ Below w.heap.size w wr ∧ wr.ownsRow w.heap.size 22 1 v (partL l (List.range k)).length vs ∧ Lists wr vs (partL l (List.range k))) (fun _ i _ => N - (intOf i).toNat)
  case atStart => exact ⟨0, [], Nat.zero_le _, rfl, Below.refl _ _, World.ownsRow_nil _ _ _ _, trivial⟩
  case round =>
    obtain ⟨k, vs, hk, rfl, hbr, hown, hls⟩ := hrel
    have hple := partL_length l (List.range k)
    rw [List.length_range] at hple
    by_cases hlt : k < N
    · have HC := hide (HCO.out k hlt)
      have HP := hide (fun B d W h1 h2 => HPE.out k B d W h1 h2)
      rw [HPP.out k] at HP
      by_cases hz : lobe l (codeL k l.length) = 0
      · rw [if_pos hz] at HP
        have HL : Hid (partL l (List.range (k + 1)) = partL l (List.range k) ++ [codeL k l.length]) := by show _ = _; rw [List.range_succ]; exact partL_snoc_yes l _ k hz
        clear hz HCO HPE HPP
        generalize partL l (List.range k) = LL at hown hls hple HL
        go_wp2_with (first
          | (go_at_call 103; refine (HC.out _).mono ?_; rintro e w3 ⟨⟨A3, c3, rfl, hA3⟩, hb3⟩)
          | (go_at_call 42; refine (HP.out A3 c3 _ (hr.bel (bel_tr hbr hbr.size hb3)) hA3.1).mono ?_; rintro e w4 ⟨rfl, hb4⟩; have hb34 := bel_tr hb3 hb3.size hb4; have hbw4 := bel_tr hbr hbr.size hb34; have hown4 := ownsRow_bel hown hb34)
          | (at_builtin; refine wpList_append_own _ rfl _ _ 42 rfl w.heap.size 22 i0 _ 1 24 Tryd.underlying42 hi iz0 iz1 iz2 rfl (by decide) _ _ _ rfl (hown4.alloc _) ⟨w4.heap.size, 0, none⟩ 1 1 [.slice A3 l.length c3] rfl rfl (cell_one_new _ _ _) (by simp [Value.oneCell']) (by simp only [maxLen]; omega) (by omega) (by have := hbw4.size; simp; omega) ?_; intro v' w5 hown5 hg5 _))
        have hb5 : Below w.heap.size w w5 := (hbw4.alloc hbw4.size _).grown hg5 (by have := hbw4.size; simp; omega) (fun j hj => (hown4.lt j hj).1)
        have hk5 : KeepT 3 w4 w5 := (KeepT.bel (alloc_bel w4 _)).trans (own_keepT (hown4.alloc _) hg5 (by decide))
        have hls5 : Lists w5 (vs ++ [.slice A3 l.length c3]) (LL ++ [codeL k l.length]) := by
          have h1 : Lists w5 vs LL := (hls.keep fun A l h => (h.bel hb34).keep hk5)
          have h2 := h1.snoc (c := c3) ((hA3.bel hb4).keep hk5)
          rw [codeL_length] at h2
          exact h2
        go_roundw
        case rel => exact ⟨k + 1, _, by omega, by go_num, hb5, by rw [HL.out, List.length_append]; exact hown5, by rw [HL.out]; exact hls5⟩
        case measure => simp [intOf]; omega
      · rw [if_neg hz] at HP
        have HL : Hid (partL l (List.range (k + 1)) = partL l (List.range k)) := by show _ = _; rw [List.range_succ]; exact partL_snoc_no l _ k hz
        clear hz HCO HPE HPP
        generalize partL l (List.range k) = LL at hown hls hple HL
        go_wp2_with (first
          | (go_at_call 103; refine (HC.out _).mono ?_; rintro e w3 ⟨⟨A3, c3, rfl, hA3⟩, hb3⟩)
          | (go_at_call 42; refine (HP.out A3 c3 _ (hr.bel (bel_tr hbr hbr.size hb3)) hA3.1).mono ?_; rintro e w4 ⟨rfl, hb4⟩; have hb34 := bel_tr hb3 hb3.size hb4; have hbw4 := bel_tr hbr hbr.size hb34; have hown4 := ownsRow_bel hown hb34))
        go_roundw
        case rel => exact ⟨k + 1, vs, by omega, by go_num, hbw4, by rw [HL.out]; exact hown4, by rw [HL.out]; exact hls.keep fun A l h => h.bel hb34⟩
        case measure => simp [intOf]; omega
    · obtain rfl : k = N := by omega
      obtain ⟨A', c', rfl⟩ := ownsRow_slice hown
      go_wp2
      go_ret
      exact ⟨⟨A', c', vs, by rw [hls.length]; rfl, Rd.of_own hown, hls⟩, hbr⟩
end Go.Proofs.YthkmeaibppkhmaaDoor

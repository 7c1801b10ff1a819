/- Contracts: codes by their number, the check of a pair, as the reference has them. -/
import Derived.Test.YtdpcehlakhahiaaDoorKp
import Derived.Test.YtdpcehlakhahiaaDoorMF
namespace Go.Proofs.YtdpcehlakhahiaaDoor
open Go.RowKit
set_option maxRecDepth 100000

theorem bitVal2 (bits m : Nat) (hb : bits < 2 ^ 32) : wrap64 (wrap64 (2 * Go.bits .and .i64 ((bits : Int) / 2 ^ m) 1) - 1) = 2 * ((bits / 2 ^ m % 2 : Nat) : Int) - 1 := by
  have e : ((bits : Int) / 2 ^ m) = ((bits / 2 ^ m : Nat) : Int) := by simp
  have hlt : bits / 2 ^ m ≤ bits := Nat.div_le_self _ _
  rw [e, i64_and_one _ (by omega)]
  have h2 : bits / 2 ^ m % 2 < 2 := Nat.mod_lt _ (by omega)
  have e1 : wrap64 (2 * ((bits / 2 ^ m % 2 : Nat) : Int)) = 2 * ((bits / 2 ^ m % 2 : Nat) : Int) := wrap64_id (by omega) (by omega)
  rw [e1, wrap64_id (by omega) (by omega)]

/-- The lag and the error of a pair. -/
def pairP (a b : List Int) : Int × Int :=
  if codeE a ≠ 0 then (0, codeE a) else if codeE b ≠ 0 then (0, codeE b) else if a.length ≠ b.length then (0, 10) else if lobe a b = 0 then (0, 0) else (lobe a b, 13)

set_option maxHeartbeats 1000000 in
theorem refCheckPair_c (a b : List Int) (A B : Option Addr) (c d : Nat) (w : World) (hr : Rd w A (ints a)) (hs : Rd w B (ints b)) (hl : a.length ≤ 1000) (hl2 : b.length ≤ 1000) :
    Calls Tryd.prog 15 #[.agg #[.slice A a.length c, .slice B b.length d]] w fun r w' => r = .returned (.tuple #[.int .i64 (pairP a b).1, .int .i64 (pairP a b).2]) ∧ Below w.heap.size w w' := by
  have hX := Blk.new w 24 [.slice A a.length c, .slice B b.length d]
  have hA := alloc_bel w (.cells #[.slice A a.length c, .slice B b.length d] 24)
  have hra := hr.alloc (.cells #[.slice A a.length c, .slice B b.length d] 24)
  have hrb := hs.alloc (.cells #[.slice A a.length c, .slice B b.length d] 24)
  have HE1 := hide (fun W h => refCheckCode_c a A c W h hl)
  have HE2 := hide (fun W h => refCheckCode_c b B d W h hl2)
  by_cases h1 : codeE a = 0
  · by_cases h2 : codeE b = 0
    · by_cases h3 : a.length = b.length
      · have hsa := hide (small_of_code h1)
        have hsb := hide (small_of_code h2)
        have h1l := (codeE_zero h1).1
        have HP : Hid (pairP a b = if lobe a b = 0 then (0, 0) else (lobe a b, 13)) := by show _ = _; unfold pairP; rw [if_neg (by omega), if_neg (by omega), if_neg (by omega)]
        rw [h1] at HE1
        rw [h2] at HE2
        have e3 : ((a.length : Int) != (b.length : Int)) = false := by simp; omega
        have HC1 : Hid (∀ (k : Nat) (W : World), k ≤ a.length → Rd W A (ints a) → Calls Tryd.prog 66 #[.slice A a.length c, .slice A a.length c, .int .i64 k] W fun r w' => r = .returned (.int .i64 (corrN a a k)) ∧ ∃ n, w' = W.drewN n) := fun k W hk hw => by
          have h := refCorr_c a a A A c c k W hw hw hsa.out hsa.out hl rfl (by omega) (by omega)
          rw [show corr a a (k : Int) = corrN a a k from by unfold corr; rw [if_neg (by omega), Int.toNat_natCast]] at h
          exact h
        have HC2 : Hid (∀ (k : Nat) (W : World), k ≤ b.length → Rd W B (ints b) → Calls Tryd.prog 66 #[.slice B b.length d, .slice B b.length d, .int .i64 k] W fun r w' => r = .returned (.int .i64 (corrN b b k)) ∧ ∃ n, w' = W.drewN n) := fun k W hk hw => by
          have h := refCorr_c b b B B d d k W hw hw hsb.out hsb.out hl2 rfl (by omega) (by omega)
          rw [show corr b b (k : Int) = corrN b b k from by unfold corr; rw [if_neg (by omega), Int.toNat_natCast]] at h
          exact h
        have H3 := hide h3
        clear h1 h2 h3 hr hs
        have c0 := hX.cell 0; have c1 := hX.cell 1; simp only [List.getElem?_cons_zero, List.getElem?_cons_succ] at c0 c1
        go_enter Tryd.func15, Tryd.ntmps15
        go_wp2_with (first
          | (go_at_call 65; have _g := G1; refine (HE2.out _ hrb).mono ?_; rintro e_ w_ ⟨rfl, rfl⟩)
          | (go_at_call 65; refine (HE1.out _ hra).mono ?_; rintro e_ w_ ⟨rfl, rfl⟩; have G1 : True := trivial))
        obtain ⟨W, hW⟩ : ∃ W, w.alloc (.cells #[.slice A a.length c, .slice B b.length d] 24) = W := ⟨_, rfl⟩
        rw [hW] at c0 c1 hA hra hrb ⊢
        clear hW HE1 HE2 hX
        go_loopw [6] (fun i wr => ∃ k : Nat, 1 ≤ k ∧ k ≤ a.length ∧ i = .int .i64 k ∧ (∃ n, wr = W.drewN n) ∧ Hid (∀ j, 1 ≤ j → j < k → corrN a a j + corrN b b j = 0)) (fun i _ => a.length - (intOf i).toNat)
        case atStart => exact ⟨1, Nat.le_refl _, h1l, rfl, ⟨0, rfl⟩, fun j h1 h2 => by omega⟩
        case round =>
          obtain ⟨k, hk1, hk, rfl, ⟨n, rfl⟩, hall⟩ := hrel
          have y0 : (W.drewN n).cell? ⟨w.heap.size, 0, none⟩ = some (.slice A a.length c) := c0
          have y1 : (W.drewN n).cell? ⟨w.heap.size, 1, none⟩ = some (.slice B b.length d) := c1
          by_cases hlt : k < a.length
          · obtain ⟨g1, g2⟩ := corrN_bd hsa.out hsa.out k
            obtain ⟨g3, g4⟩ := corrN_bd hsb.out hsb.out k
            have HCa := hide (fun m => HC1.out k ((W.drewN n).drewN m) hk ((hra.drewN n).drewN m))
            have HCb := hide (fun m => HC2.out k ((W.drewN n).drewN m) (by have := H3.out; omega) ((hrb.drewN n).drewN m))
            obtain ⟨Wn, hWn⟩ : ∃ Wn, W.drewN n = Wn := ⟨_, rfl⟩
            have HWn := hide hWn
            rw [hWn] at y0 y1 HCa HCb ⊢
            clear hWn
            by_cases hz : corrN a a k + corrN b b k = 0
            · have H1 : Hid (∀ i, 1 ≤ i → i < k + 1 → corrN a a i + corrN b b i = 0) := fun i h1 h2 => by
                by_cases e : i = k
                · subst e; exact hz
                · exact hall.out i h1 (by omega)
              have e1 : (corrN a a k + corrN b b k != 0) = false := by simpa using hz
              clear hz
              generalize corrN a a k = ca at HCa g1 g2 e1
              generalize corrN b b k = cb at HCb g3 g4 e1
              have wr1 : IntKind.i64.wrap (ca + cb) = ca + cb := by simp (disch := omega) only [IntWalk.i64_in]
              go_upto_region 12 with fail
              go_quiet ((first
                | (go_at_call_of 66 (Value.slice A a.length c); exact Calls.quiet_of (HCa.out _))
                | (go_at_call_of 66 (Value.slice B b.length d); exact Calls.quiet_of (HCb.out _))))
              go_wp2
              go_roundw
              case rel => exact ⟨k + 1, by omega, by omega, by go_num, ⟨_, by rw [← HWn.out]; exact World.drewN_drewN _ _ _⟩, H1⟩
              case measure => simp [intOf]; omega
            · have H1 : Hid (pairP a b = (lobe a b, 13)) := by
                show _ = _
                rw [HP.out, if_neg]
                rw [lobe_at a b k hk1 hlt hall.out hz]; omega
              have H2 : Hid (lobe a b = k) := lobe_at a b k hk1 hlt hall.out hz
              have e1 : (corrN a a k + corrN b b k != 0) = true := by simpa using hz
              clear hz
              generalize corrN a a k = ca at HCa g1 g2 e1
              generalize corrN b b k = cb at HCb g3 g4 e1
              have wr1 : IntKind.i64.wrap (ca + cb) = ca + cb := by simp (disch := omega) only [IntWalk.i64_in]
              go_upto_region 12 with fail
              go_quiet ((first
                | (go_at_call_of 66 (Value.slice A a.length c); exact Calls.quiet_of (HCa.out _))
                | (go_at_call_of 66 (Value.slice B b.length d); exact Calls.quiet_of (HCb.out _))))
              go_wp2
              go_ret2
              exact ⟨by rw [H1.out, H2.out]; rfl, by rw [← HWn.out]; exact below_drewN (below_drewN hA _) _⟩
          · obtain rfl : k = a.length := by omega
            have hz : lobe a b = 0 := lobe_none a b fun i h1 h2 => hall.out i h1 h2
            have H1 : Hid (pairP a b = (0, 0)) := by show _ = _; rw [HP.out, if_pos hz]
            clear hz
            go_wp2
            go_ret2
            exact ⟨by rw [H1.out]; rfl, below_drewN hA n⟩
      · have HP : Hid (pairP a b = (0, 10)) := by show _ = _; unfold pairP; rw [if_neg (by omega), if_neg (by omega), if_pos (by omega)]
        rw [h1] at HE1
        rw [h2] at HE2
        have e3 : ((a.length : Int) != (b.length : Int)) = true := by simp; omega
        clear h1 h2 h3 hr hs
        have c0 := hX.cell 0; have c1 := hX.cell 1; simp only [List.getElem?_cons_zero, List.getElem?_cons_succ] at c0 c1
        go_enter Tryd.func15, Tryd.ntmps15
        go_wp2_with (first
          | (go_at_call 65; have _g := G1; refine (HE2.out _ hrb).mono ?_; rintro e_ w_ ⟨rfl, rfl⟩)
          | (go_at_call 65; refine (HE1.out _ hra).mono ?_; rintro e_ w_ ⟨rfl, rfl⟩; have G1 : True := trivial))
        go_ret2
        exact ⟨by rw [HP.out]; rfl, hA⟩
    · have HP : Hid (pairP a b = (0, codeE b)) := by show _ = _; unfold pairP; rw [if_neg (by omega), if_pos h2]
      have e2 : (codeE b != 0) = true := by simpa using h2
      rw [h1] at HE1
      clear h1 h2 hr hs
      generalize codeE b = E at HP HE2 e2
      have c0 := hX.cell 0; have c1 := hX.cell 1; simp only [List.getElem?_cons_zero, List.getElem?_cons_succ] at c0 c1
      go_enter Tryd.func15, Tryd.ntmps15
      go_wp2_with (first
        | (go_at_call 65; have _g := G1; refine (HE2.out _ hrb).mono ?_; rintro e_ w_ ⟨rfl, rfl⟩)
        | (go_at_call 65; refine (HE1.out _ hra).mono ?_; rintro e_ w_ ⟨rfl, rfl⟩; have G1 : True := trivial))
      go_ret2
      exact ⟨by rw [HP.out]; rfl, hA⟩
  · have HP : Hid (pairP a b = (0, codeE a)) := by show _ = _; unfold pairP; rw [if_pos h1]
    have e2 : (codeE a != 0) = true := by simpa using h1
    clear h1 hr hs
    generalize codeE a = E at HP HE1 e2
    have c0 := hX.cell 0; have c1 := hX.cell 1; simp only [List.getElem?_cons_zero, List.getElem?_cons_succ] at c0 c1
    go_enter Tryd.func15, Tryd.ntmps15
    go_wp2_with (first
      | (go_at_call 65; refine (HE1.out _ hra).mono ?_; rintro e_ w_ ⟨rfl, rfl⟩))
    go_ret2
    exact ⟨by rw [HP.out]; rfl, hA⟩

theorem refPairErr_c (a b : List Int) (A B : Option Addr) (c d : Nat) (w : World) (hr : Rd w A (ints a)) (hs : Rd w B (ints b)) (hl : a.length ≤ 1000) (hl2 : b.length ≤ 1000) :
    Calls Tryd.prog 19 #[.agg #[.slice A a.length c, .slice B b.length d]] w fun r w' => r = .returned (.int .i64 (pairP a b).2) ∧ Below w.heap.size w w' := by
  have HX := hide (fun W h1 h2 => refCheckPair_c a b A B c d W h1 h2 hl hl2)
  generalize (pairP a b).2 = E at HX ⊢
  generalize (pairP a b).1 = I at HX
  go_enter Tryd.func19, Tryd.ntmps19
  go_wp2_with (first | (go_at_call 15; refine (HX.out _ (hr.alloc _) (hs.alloc _)).mono ?_; rintro e w1 ⟨rfl, hb1⟩))
  go_ret
  exact ⟨rfl, bel_tr (alloc_bel w _) (by simp) hb1⟩
end Go.Proofs.YtdpcehlakhahiaaDoor

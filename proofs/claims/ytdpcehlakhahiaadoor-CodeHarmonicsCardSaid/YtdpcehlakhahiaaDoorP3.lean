/- Contracts: the check of a pair, the doubled and the interleaved pair (the program's). Written by tools/genp3.py. -/
import Derived.Test.YtdpcehlakhahiaaDoorP2
import Derived.Test.YtdpcehlakhahiaaDoorS1
namespace Go.Proofs.YtdpcehlakhahiaaDoor
open Go.RowKit
set_option maxRecDepth 100000

theorem kpn {n : Nat} {W w' : World} (h : Below n W w') : (∀ b o, b < n → w'.cell? ⟨b, o, none⟩ = W.cell? ⟨b, o, none⟩) ∧ Below n W w' := ⟨fun b o hb => h.cell (p := ⟨b, o, none⟩) hb, h⟩

/-- The first error of two codes and of their lengths. -/
def codesE (a b : List Int) : Int := firstE [codeE a, codeE b, errIf ((a.length : Int) != (b.length : Int)) 10]
theorem pairP_of (a b : List Int) : pairP a b = if codesE a b ≠ 0 then (0, codesE a b) else (lobe a b, errIf (lobe a b != 0) 13) := by
  unfold pairP codesE firstE errIf
  by_cases h1 : codeE a = 0
  · simp only [h1]
    by_cases h2 : codeE b = 0
    · simp only [h2]
      by_cases h3 : a.length = b.length
      · by_cases h4 : lobe a b = 0 <;> simp [firstE, h3, h4]
      · have : ((a.length : Int) != (b.length : Int)) = true := by simp; omega
        simp [firstE, h3, this]
    · simp [firstE, h2]
  · simp [h1]
theorem codesE_zero {a b : List Int} (h : codesE a b = 0) : codeE a = 0 ∧ codeE b = 0 ∧ a.length = b.length := by
  have h1 := firstE_zero h
  refine ⟨h1 _ (by simp), h1 _ (by simp), ?_⟩
  have h3 := h1 (errIf ((a.length : Int) != (b.length : Int)) 10) (by simp)
  unfold errIf at h3
  by_cases h : a.length = b.length
  · exact h
  · have e : ((a.length : Int) != (b.length : Int)) = true := by simp; omega
    rw [e] at h3; simp at h3

set_option maxHeartbeats 1000000 in
theorem checkPair_c (a b : List Int) (A B : Option Addr) (c d : Nat) (w : World) (hr : Rd w A (ints a)) (hs : Rd w B (ints b)) (hl : a.length ≤ 1000) (hl2 : b.length ≤ 1000) :
    Calls Tryd.prog 11 #[.agg #[.slice A a.length c, .slice B b.length d]] w fun r w' => r = .returned (.tuple #[.int .i64 (pairP a b).1, .int .i64 (pairP a b).2]) ∧ Below w.heap.size w w' := by
  have hX := Blk.new w 24 [.slice A a.length c, .slice B b.length d]
  have hA := alloc_bel w (.cells #[.slice A a.length c, .slice B b.length d] 24)
  have HP := hide (pairP_of a b)
  go_enter Tryd.func11, Tryd.ntmps11
  go_upto_region 1 with fail
  obtain ⟨W, hW⟩ : ∃ W, w.alloc (.cells #[.slice A a.length c, .slice B b.length d] 24) = W := ⟨_, rfl⟩
  rw [hW] at hX hA ⊢
  clear hW
  have hxl := hX.lt
  have c0 := hX.cell 0; have c1 := hX.cell 1; simp only [List.getElem?_cons_zero, List.getElem?_cons_succ] at c0 c1
  have hra := hr.bel hA
  have hrb := hs.bel hA
  have HCA := hide (fun W h => checkCode_c a A c W h hl)
  have HCB := hide (fun W h => checkCode_c b B d W h hl2)
  have HF : Hid (firstE [codeE a, codeE b, errIf ((a.length : Int) != (b.length : Int)) 10] = codesE a b) := rfl
  have HZ := hide (fun h => codesE_zero (a := a) (b := b) h)
  clear hX hr hs
  go_cut [4] from 6 to 21 (fun t4 wx => t4 = .int .i64 (codesE a b) ∧ Below W.heap.size W wx)
  case first =>
    go_region_held3 (fun w' => (∀ b o, b < W.heap.size → w'.cell? ⟨b, o, none⟩ = W.cell? ⟨b, o, none⟩) ∧ Below W.heap.size W w')
      ((refine kp ?_; ((repeat' (first | with_reducible exact Below.refl _ _ | with_reducible exact HBb.out | with_reducible exact HBa.out | with_reducible refine Below.drew ?_ | with_reducible refine bel_alloc ?_ ?_ _ | with_reducible refine Below.setCell ?_ ?_ _)); all_goals (first | omega | (simp <;> omega)))))
      (first
        | (go_at_call_of 58 (Value.slice A a.length c); refine (HCA.out _ (hra.bel (by ((repeat' (first | with_reducible exact Below.refl _ _ | with_reducible exact HBb.out | with_reducible exact HBa.out | with_reducible refine Below.drew ?_ | with_reducible refine bel_alloc ?_ ?_ _ | with_reducible refine Below.setCell ?_ ?_ _)); all_goals (first | omega | (simp <;> omega)))))).mono ?_; rintro e wa ⟨rfl, hba⟩; have HBa : Hid (Below W.heap.size W wa) := (by refine bel_tr ?_ ?_ hba; ((repeat' (first | with_reducible exact Below.refl _ _ | with_reducible exact HBb.out | with_reducible refine Below.drew ?_ | with_reducible refine bel_alloc ?_ ?_ _ | with_reducible refine Below.setCell ?_ ?_ _)); all_goals (first | omega | (simp <;> omega)))); have sa := HBa.out.size)
        | (go_at_call_of 58 (Value.slice B b.length d); refine (HCB.out _ (hrb.bel (by ((repeat' (first | with_reducible exact Below.refl _ _ | with_reducible exact HBb.out | with_reducible exact HBa.out | with_reducible refine Below.drew ?_ | with_reducible refine bel_alloc ?_ ?_ _ | with_reducible refine Below.setCell ?_ ?_ _)); all_goals (first | omega | (simp <;> omega)))))).mono ?_; rintro e wb ⟨rfl, hbb⟩; have HBb : Hid (Below W.heap.size W wb) := (by refine bel_tr ?_ ?_ hbb; ((repeat' (first | with_reducible exact Below.refl _ _ | with_reducible exact HBa.out | with_reducible refine Below.drew ?_ | with_reducible refine bel_alloc ?_ ?_ _ | with_reducible refine Below.setCell ?_ ?_ _)); all_goals (first | omega | (simp <;> omega)))); have sb := HBb.out.size)
        | (go_at_call 59; refine (errorIf_c _ _ _).mono ?_; rintro e_ w_ ⟨rfl, rfl⟩)
        | (go_at_call 57; refine (firstError_3d _ _ _ _).mono ?_; rintro e_ w_ ⟨rfl, rfl⟩)
        | (go_at_call 57; refine (firstError_3 _ _ _ _).mono ?_; rintro e_ w_ ⟨rfl, rfl⟩))
    all_goals
      rw [HF.out]
      go_wp2
      go_meet
      refine ⟨rfl, ?_⟩
      ((repeat' (first | with_reducible exact Below.refl _ _ | with_reducible exact HBb.out | with_reducible exact HBa.out | with_reducible refine Below.drew ?_ | with_reducible refine bel_alloc ?_ ?_ _ | with_reducible refine Below.setCell ?_ ?_ _)); all_goals (first | omega | (simp <;> omega)))
  obtain ⟨rfl, hbx⟩ := hcut
  have hWx := bel_tr hA hA.size hbx
  clear HF HCA HCB
  by_cases h0 : codesE a b = 0
  · obtain ⟨q1, q2, q3⟩ := HZ.out h0
    have HL := hide (fun W h1 h2 => lobeOf_c a b A B c d W h1 h2 (small_of_code q1) (small_of_code q2) hl q3)
    have e1 : (codesE a b != 0) = false := by simpa using h0
    have HP2 : Hid (pairP a b = (lobe a b, errIf (lobe a b != 0) 13)) := by show _ = _; rw [HP.out, if_neg (by omega)]
    have z0 := (hbx.cell (p := ⟨w.heap.size, 0, none⟩) hxl).trans c0
    have z1 := (hbx.cell (p := ⟨w.heap.size, 1, none⟩) hxl).trans c1
    clear h0 q1 q2 q3 HP HZ c0 c1
    generalize codesE a b = E at e1 ⊢
    go_wp2_with (first
      | (go_at_call 60; refine (HL.out _ (hra.bel hbx) (hrb.bel hbx)).mono ?_; rintro e_ w2 ⟨rfl, n2, rfl⟩)
      | (go_at_call 59; refine (errorIf_c _ _ _).mono ?_; rintro e_ w_ ⟨rfl, rfl⟩))
    go_ret2
    exact ⟨by rw [HP2.out]; rfl, below_drewN hWx _⟩
  · have e1 : (codesE a b != 0) = true := by simpa using h0
    have HP2 : Hid (pairP a b = (0, codesE a b)) := by show _ = _; rw [HP.out, if_pos h0]
    clear h0 HP HZ c0 c1
    generalize codesE a b = E at e1 HP2 ⊢
    go_wp2
    go_ret2
    exact ⟨by rw [HP2.out]; rfl, hWx⟩

/-- The error of a pair that is to become twice as long. -/
def longE (a b : List Int) : Int := firstE [(pairP a b).2, errIf (decide ((32 : Int) < 2 * (a.length : Int))) 8]
theorem longerError_c (a b : List Int) (A B : Option Addr) (c d : Nat) (w : World) (hr : Rd w A (ints a)) (hs : Rd w B (ints b)) (hl : a.length ≤ 1000) (hl2 : b.length ≤ 1000) :
    Calls Tryd.prog 61 #[.agg #[.slice A a.length c, .slice B b.length d]] w fun r w' => r = .returned (.int .i64 (longE a b)) ∧ Below w.heap.size w w' := by
  have hX := Blk.new w 24 [.slice A a.length c, .slice B b.length d]
  have hA := alloc_bel w (.cells #[.slice A a.length c, .slice B b.length d] 24)
  have HC := hide (fun W h1 h2 => checkPair_c a b A B c d W h1 h2 hl hl2)
  have HE : Hid (firstE [(pairP a b).2, errIf (decide ((32 : Int) < 2 * (a.length : Int))) 8] = longE a b) := rfl
  have hra := hr.bel hA
  have hrb := hs.bel hA
  have hxl := hX.lt
  have c0 := hX.cell 0; have c1 := hX.cell 1; simp only [List.getElem?_cons_zero, List.getElem?_cons_succ] at c0 c1
  go_enter Tryd.func61, Tryd.ntmps61
  go_wp2_with (first
    | (go_at_call 11; refine (HC.out _ hra hrb).mono ?_; rintro e_ w2 ⟨rfl, hb2⟩; have z0 := (hb2.cell (p := ⟨w.heap.size, 0, none⟩) hxl).trans c0)
    | (go_at_call 59; refine (errorIf_c _ _ _).mono ?_; rintro e_ w_ ⟨rfl, rfl⟩)
    | (go_at_call 57; refine (firstError_2 _ _ _).mono ?_; rintro e_ w_ ⟨rfl, rfl⟩))
  go_ret
  have hB := bel_tr hA hA.size hb2
  exact ⟨by rw [← HE.out]; rfl, bel_alloc hB hB.size _⟩
end Go.Proofs.YtdpcehlakhahiaaDoor

/- Contracts: the first slab that reflects; shots. -/
import Derived.Test.YtkcjiejdjdcbeaaRy6
import Derived.BigQuiet
set_option linter.unusedSimpArgs false
set_option linter.unusedVariables false
set_option linter.unusedSimpArgs false
set_option linter.unusedVariables false
namespace Go.Proofs.Ytkcjiejdjdcbeaa
open Go.RowKit
set_option maxRecDepth 100000



/-- The index of the first item with a property; -1 if there is none. -/
def fIdx (pred : G → Bool) (l : List G) : Int := if l.findIdx pred < l.length then (l.findIdx pred : Int) else -1
theorem fIdx_some {pred : G → Bool} {l : List G} {k : Nat} (hk : k < l.length) (h0 : ∀ j (h : j < l.length), j < k → pred l[j] = false) (hz : pred l[k] = true) : fIdx pred l = (k : Int) := by
  have h1 : l.findIdx pred = k := by
    rw [List.findIdx_eq hk]
    exact ⟨hz, fun j hj => h0 j (by omega) hj⟩
  unfold fIdx
  rw [h1, if_pos hk]
theorem fIdx_none {pred : G → Bool} {l : List G} (h0 : ∀ j (h : j < l.length), pred l[j] = false) : fIdx pred l = -1 := by
  have h1 : l.findIdx pred = l.length := by
    rw [List.findIdx_eq_length]
    intro x hx
    obtain ⟨j, hj, rfl⟩ := List.getElem_of_mem hx
    exact h0 j hj
  unfold fIdx
  rw [h1, if_neg (by omega)]
theorem fIdx_any (pred : G → Bool) (l : List G) : decide (0 ≤ fIdx pred l) = l.any pred := by
  by_cases h : l.any pred = true
  · rw [h]
    obtain ⟨x, hx, hp⟩ := List.any_eq_true.1 h
    have : l.findIdx pred < l.length := List.findIdx_lt_length.2 ⟨x, hx, hp⟩
    unfold fIdx
    rw [if_pos this]
    exact decide_eq_true (by omega)
  · have h := eq_false_of_ne_true h
    rw [h]
    rw [fIdx_none (fun j hj => by
      rw [List.any_eq_false] at h
      have := h l[j] (List.getElem_mem hj)
      simpa using this)]
    rfl
theorem indexFuncG_c (pred : G → Bool) (f : FuncId) (l : List G) (A : Option Addr) (c : Nat) (cap : Array Value) (w : World) (hr : Rd w A (gs l)) (hl : l.length ≤ 1000)
    (hE : ∀ (args : Array Value) (W : World), (callFunc f args).run Try.prog W = .ok (.enter f args) W)
    (hchk : ∀ (k : Nat) (h : k < l.length) (W : World), Below w.heap.size w W → Calls Try.prog f (#[.agg #[.int .i64 l[k].1, .int .i64 l[k].2]] ++ cap) W fun r W' => r = .returned (.bool (pred l[k])) ∧ Below W.heap.size W W') :
    Calls Try.prog 153 #[.slice A l.length c, .func (.func f) #[] cap] w fun r w' => r = .returned (.int .i64 (fIdx pred l)) ∧ Below w.heap.size w w' := by
  have HC := hide hchk
  clear hchk
  go_enter Try.func153, Try.ntmps153
  go_wp2
  go_loopw [8] (fun i wr => ∃ k : Nat, k ≤ l.length ∧ i = .int .i64 k ∧ Below w.heap.size w wr ∧ Hid (∀ j (h : j < l.length), j < k → pred l[j] = false)) (fun i _ => l.length - (intOf i).toNat)
  case atStart => exact ⟨0, Nat.zero_le _, rfl, Below.refl _ _, fun _ _ h => by omega⟩
  case round =>
    obtain ⟨k, hk, rfl, hb, h0⟩ := hrel
    by_cases hlt : k < l.length
    · obtain ⟨b, off, rfl, hblt, hc0, hc1⟩ := (hr.bel hb).g_at hlt
      by_cases hz : pred l[k] = true
      · have H1 : Hid (fIdx pred l = (k : Int)) := fIdx_some hlt (fun j h hj => h0.out j h hj) hz
        go_wp2_with (refine (HC.out k hlt _ hb).mono ?_; rintro e w' ⟨rfl, hb1⟩)
        go_ret
        exact ⟨by rw [H1.out]; rfl, bel_tr hb hb.size hb1⟩
      · have hz' : pred l[k] = false := by simpa using hz
        have H1 : Hid (∀ j (h : j < l.length), j < k + 1 → pred l[j] = false) := fun j h hj => by
          by_cases e : j = k
          · subst e; exact hz'
          · exact h0.out j h (by omega)
        clear hz
        go_wp2_with (refine (HC.out k hlt _ hb).mono ?_; rintro e w' ⟨rfl, hb1⟩)
        go_roundw
        case rel => exact ⟨k + 1, by omega, by go_num, bel_tr hb hb.size hb1, H1⟩
        case measure => simp [intOf]; omega
    · obtain rfl : k = l.length := by omega
      have H1 : Hid (fIdx pred l = -1) := fIdx_none fun j h => h0.out j h h
      go_wp2
      go_ret
      exact ⟨by rw [H1.out]; rfl, hb⟩
theorem containsFuncG_c (pred : G → Bool) (f : FuncId) (l : List G) (A : Option Addr) (c : Nat) (cap : Array Value) (w : World) (hr : Rd w A (gs l)) (hl : l.length ≤ 1000)
    (hE : ∀ (args : Array Value) (W : World), (callFunc f args).run Try.prog W = .ok (.enter f args) W)
    (hchk : ∀ (k : Nat) (h : k < l.length) (W : World), Below w.heap.size w W → Calls Try.prog f (#[.agg #[.int .i64 l[k].1, .int .i64 l[k].2]] ++ cap) W fun r W' => r = .returned (.bool (pred l[k])) ∧ Below W.heap.size W W') :
    Calls Try.prog 138 #[.slice A l.length c, .func (.func f) #[] cap] w fun r w' => r = .returned (.bool (l.any pred)) ∧ Below w.heap.size w w' := by
  have HI := hide (indexFuncG_c pred f l A c cap w hr hl hE hchk)
  clear hchk
  go_enter Try.func138, Try.ntmps138
  go_wp2_with (first | (go_at_call 153; refine HI.out.mono ?_; rintro e_ w1 ⟨rfl, hb1⟩))
  go_ret
  exact ⟨ret_bool (fIdx_any pred l), hb1⟩


/-- Whether a slab reflects a ray, and how many slabs a ray passes. -/
def hitB (f n d : Int) (g : G) : Bool := decide ((idxQ g.2 f).1 * d ≤ n * (idxQ g.2 f).2)
def pasN (f n d : Int) (l : List G) : Nat := l.findIdx (hitB f n d)
theorem pasN_le (f n d : Int) (l : List G) : pasN f n d l ≤ l.length := List.findIdx_le_length
theorem idxQ_bd {sq f : Int} (h1 : 1 ≤ f) (h2 : f ≤ 3000) (h3 : 0 ≤ sq) (h4 : sq ≤ 9000000) : 1 ≤ (idxQ sq f).2 ∧ (idxQ sq f).2 ≤ 9000000 ∧ -9000000 ≤ (idxQ sq f).1 ∧ (idxQ sq f).1 ≤ 9000000 := by
  have a := Int.mul_le_mul_of_nonneg_left h1 (show 0 ≤ f by omega)
  have b := Int.mul_le_mul h2 h2 (show 0 ≤ f by omega) (by decide)
  have c := redQ_den (f * f - sq) (f * f) (by omega)
  have e := redQ_num (f * f - sq) (f * f) (by omega)
  unfold idxQ
  omega
/-- Valid slabs. -/
def OkS (l : List G) : Prop := ∀ g ∈ l, 1 ≤ g.1 ∧ g.1 ≤ 500 ∧ 0 ≤ g.2 ∧ g.2 ≤ 9000000
theorem passed1_c (t sq f n d H : Int) (A : Option Addr) (L c B : Nat) (w : World) (hX : Blk w B 159 [.int .i64 H, .slice A L c, .int .i64 f, .int .i64 n, .int .i64 d]) (h1 : 1 ≤ f) (h2 : f ≤ 3000) (h3 : 0 ≤ sq) (h4 : sq ≤ 9000000) (n0 : 0 ≤ n) (n1 : n ≤ 100) (d0 : 1 ≤ d) (d1 : d ≤ 100) :
    Calls Try.prog 154 (#[.agg #[.int .i64 t, .int .i64 sq]] ++ #[.pointer (some ⟨B, 0, none⟩)]) w fun r w' => r = .returned (.bool (hitB f n d (t, sq))) ∧ Below w.heap.size w w' := by
  rw [show (#[.agg #[.int .i64 t, .int .i64 sq]] ++ #[.pointer (some ⟨B, 0, none⟩)] : Array Value) = #[.agg #[.int .i64 t, .int .i64 sq], .pointer (some ⟨B, 0, none⟩)] from rfl]
  have HI := hide (fun W => indexOf_c sq f W h1 h2 h3 h4)
  have hb := idxQ_bd h1 h2 h3 h4
  have HR : Hid (hitB f n d (t, sq) = decide ((idxQ sq f).1 * d ≤ n * (idxQ sq f).2)) := rfl
  generalize idxQ sq f = z at HI hb HR
  obtain ⟨a, b⟩ := z
  dsimp only at HI hb HR
  have HM := hide (fun W => isAtMost_c a b n d W (by omega) (by omega) (by omega) (by omega) (by omega) (by omega) (by omega) (by omega))
  rw [← HR.out] at HM
  generalize hitB f n d (t, sq) = v at HM ⊢
  obtain ⟨W, hW⟩ : ∃ W, w.alloc (.cells #[.int .i64 t, .int .i64 sq] 79) = W := ⟨_, rfl⟩
  have hB0 : Below w.heap.size w W := by rw [← hW]; exact alloc_bel _ _
  have hY : Blk W w.heap.size 79 [.int .i64 t, .int .i64 sq] := by rw [← hW]; exact Blk.new w _ [_, _]
  have hX1 := hX.bel hB0
  have HW := hide hW
  clear hW hX
  have y0 := hY.cell 0; have y1 := hY.cell 1; simp only [List.getElem?_cons_zero, List.getElem?_cons_succ] at y0 y1
  have c0 := hX1.cell 0; have c1 := hX1.cell 1; have c2 := hX1.cell 2; have c3 := hX1.cell 3; have c4 := hX1.cell 4; simp only [List.getElem?_cons_zero, List.getElem?_cons_succ] at c0 c1 c2 c3 c4
  have hz1 := hX1.lt
  have hz2 := hY.lt
  go_enter Try.func154, Try.ntmps154
  go_upto_region 1 with fail
  rw [HW.out]
  have hSd : (∀ b o, b < W.heap.size → W.drew.cell? ⟨b, o, none⟩ = W.cell? ⟨b, o, none⟩) ∧ Below W.heap.size W W.drew := kp (Below.refl _ _).drew
  clear hX1 hY
  refine wp_region_held (S := fun w' => (∀ b o, b < W.heap.size → w'.cell? ⟨b, o, none⟩ = W.cell? ⟨b, o, none⟩) ∧ Below W.heap.size W w') (by kernel_rfl) ?_
  change wpAnyH _ _ _ _ _ _ _ _ W.drew
  refine wpAnyH_take (i := 0) (v := ?_) rfl (by kernel_rfl) (by kernel_rfl) (by kernel_rfl) (fun _ _ _ h => h) (Or.inl ⟨by kernel_rfl, ?_⟩) (by assumption) ?_
  rotate_left 1
  · (intro w hSw; obtain ⟨hk1, hk2⟩ := hSw; go_simp <;> with_reducible rfl)
  simp only [Act.put, List.getElem_toArray, List.getElem_cons_zero, List.setIfInBounds_toArray, List.set_cons_zero, List.set_cons_succ]
  refine wpAnyH_take (i := 1) (v := ?_) rfl (by kernel_rfl) (by kernel_rfl) (by kernel_rfl) (fun _ _ _ h => h) (Or.inl ⟨by kernel_rfl, ?_⟩) (by assumption) ?_
  rotate_left 1
  · (intro w hSw; obtain ⟨hk1, hk2⟩ := hSw; go_simp <;> with_reducible rfl)
  simp only [Act.put, List.getElem_toArray, List.getElem_cons_zero, List.getElem_cons_succ, List.setIfInBounds_toArray, List.set_cons_zero, List.set_cons_succ]
  refine wpAnyH_take (i := 2) (v := ?_) rfl (by kernel_rfl) (by kernel_rfl) (by kernel_rfl) (fun _ _ _ h => h) (Or.inl ⟨by kernel_rfl, ?_⟩) (by assumption) ?_
  rotate_left 1
  · (intro w hSw; obtain ⟨hk1, hk2⟩ := hSw; go_simp <;> with_reducible rfl)
  simp only [Act.put, List.getElem_toArray, List.getElem_cons_zero, List.getElem_cons_succ, List.setIfInBounds_toArray, List.set_cons_zero, List.set_cons_succ]
  refine wpAnyH_take (i := 3) (v := ?_) rfl (by kernel_rfl) (by kernel_rfl) (by kernel_rfl) (fun _ _ _ h => h) (Or.inl ⟨by kernel_rfl, ?_⟩) (by assumption) ?_
  rotate_left 1
  · (intro w hSw; obtain ⟨hk1, hk2⟩ := hSw; go_simp <;> with_reducible rfl)
  simp only [Act.put, List.getElem_toArray, List.getElem_cons_zero, List.getElem_cons_succ, List.setIfInBounds_toArray, List.set_cons_zero, List.set_cons_succ]
  refine wpAnyH_take (i := 4) (v := ?_) rfl (by kernel_rfl) (by kernel_rfl) (by kernel_rfl) (fun _ _ _ h => h) (Or.inl ⟨by kernel_rfl, ?_⟩) (by assumption) ?_
  rotate_left 1
  · (intro w hSw; obtain ⟨hk1, hk2⟩ := hSw; go_simp <;> with_reducible rfl)
  simp only [Act.put, List.getElem_toArray, List.getElem_cons_zero, List.getElem_cons_succ, List.setIfInBounds_toArray, List.set_cons_zero, List.set_cons_succ]
  refine wpAnyH_take (i := 6) (v := ?_) rfl (by kernel_rfl) (by kernel_rfl) (by kernel_rfl) (fun _ _ _ h => h) (Or.inl ⟨by kernel_rfl, ?_⟩) (by assumption) ?_
  rotate_left 1
  · (intro w hSw; obtain ⟨hk1, hk2⟩ := hSw; go_simp <;> with_reducible rfl)
  simp only [Act.put, List.getElem_toArray, List.getElem_cons_zero, List.getElem_cons_succ, List.setIfInBounds_toArray, List.set_cons_zero, List.set_cons_succ]
  refine wpAnyH_take (i := 7) (v := ?_) rfl (by kernel_rfl) (by kernel_rfl) (by kernel_rfl) (fun _ _ _ h => h) (Or.inl ⟨by kernel_rfl, ?_⟩) (by assumption) ?_
  rotate_left 1
  · (intro w hSw; obtain ⟨hk1, hk2⟩ := hSw; go_simp <;> with_reducible rfl)
  simp only [Act.put, List.getElem_toArray, List.getElem_cons_zero, List.getElem_cons_succ, List.setIfInBounds_toArray, List.set_cons_zero, List.set_cons_succ]
  refine wpAnyH_take (i := 8) (v := ?_) rfl (by kernel_rfl) (by kernel_rfl) (by kernel_rfl) (fun _ _ _ h => h) (Or.inl ⟨by kernel_rfl, ?_⟩) (by assumption) ?_
  rotate_left 1
  · (intro w hSw; obtain ⟨hk1, hk2⟩ := hSw; go_simp <;> with_reducible rfl)
  simp only [Act.put, List.getElem_toArray, List.getElem_cons_zero, List.getElem_cons_succ, List.setIfInBounds_toArray, List.set_cons_zero, List.set_cons_succ]
  refine nextH (i := 5) (by kernel_rfl) rfl (fun K hK => ?_)
  go_simp
  refine (HI.out _).mono ?_
  rintro e_ w1 ⟨rfl, hbx⟩
  have hS' := kp (bel_tr hSd.2 hSd.2.size hbx)
  try dsimp only
  refine hK _ _ hS' ?_
  clear hK K hSd hbx
  have hSd := hS'
  clear hS'
  refine nextH (i := 9) (by kernel_rfl) rfl (fun K hK => ?_)
  go_simp
  refine (HM.out _).mono ?_
  rintro e_ w2 ⟨rfl, hbx⟩
  have hS' := kp (bel_tr hSd.2 hSd.2.size hbx)
  try dsimp only
  refine hK _ _ hS' ?_
  clear hK K hSd hbx
  have hSd := hS'
  clear hS'
  refine nextH (i := 10) (by kernel_rfl) rfl (fun K hK => ?_)
  go_simp
  refine hK _ _ hSd ?_
  clear hK K
  refine wpAnyH_done (by kernel_rfl) ?_ _
  go_wp2
  go_ret
  exact ⟨rfl, bel_tr hB0 hB0.size hSd.2⟩
theorem passed_c (H f n d : Int) (A : Option Addr) (c : Nat) (l : List G) (w : World) (hr : Rd w A (gs l)) (hl : l.length ≤ 1000) (hok : OkS l) (h1 : 1 ≤ f) (h2 : f ≤ 3000) (n0 : 0 ≤ n) (n1 : n ≤ 100) (d0 : 1 ≤ d) (d1 : d ≤ 100) :
    Calls Try.prog 104 #[.agg #[.int .i64 H, .slice A l.length c, .int .i64 f, .int .i64 n, .int .i64 d]] w fun r w' => r = .returned (.int .i64 (pasN f n d l : Int)) ∧ Below w.heap.size w w' := by
  have hX := Blk.new w 159 [.int .i64 H, .slice A l.length c, .int .i64 f, .int .i64 n, .int .i64 d]
  have hbel := alloc_bel w (.cells #[.int .i64 H, .slice A l.length c, .int .i64 f, .int .i64 n, .int .i64 d] 159)
  have hrW := hr.alloc (.cells #[.int .i64 H, .slice A l.length c, .int .i64 f, .int .i64 n, .int .i64 d] 159)
  generalize hW : w.alloc (.cells #[.int .i64 H, .slice A l.length c, .int .i64 f, .int .i64 n, .int .i64 d] 159) = W at hX hbel hrW
  have HIF := hide (indexFuncG_c (hitB f n d) 154 l A c #[.pointer (some ⟨w.heap.size, 0, none⟩)] W hrW hl Try.call154 (fun k h W' hb => by
    have hg := hok _ (List.getElem_mem h)
    exact passed1_c _ _ f n d H A l.length c w.heap.size W' (hX.bel hb) h1 h2 hg.2.2.1 hg.2.2.2 n0 n1 d0 d1))
  have hpl := pasN_le f n d l
  have HW := hide hW
  clear hW
  have c0 := hX.cell 0; have c1 := hX.cell 1; have c2 := hX.cell 2; have c3 := hX.cell 3; have c4 := hX.cell 4; simp only [List.getElem?_cons_zero, List.getElem?_cons_succ] at c0 c1 c2 c3 c4
  have hz := hX.lt
  by_cases hlt : pasN f n d l < l.length
  · have e : fIdx (hitB f n d) l = (pasN f n d l : Int) := if_pos hlt
    rw [e] at HIF
    generalize pasN f n d l = k at HIF hlt ⊢
    go_enter Try.func104, Try.ntmps104
    go_upto_region 1 with fail
    rw [HW.out]
    go_wp2_with (go_at_call 153; refine (HIF.out).mono ?_; rintro e_ w1 ⟨rfl, hb1⟩)
    go_ret
    exact ⟨rfl, bel_tr hbel hbel.size hb1⟩
  · have e : fIdx (hitB f n d) l = -1 := if_neg hlt
    rw [e] at HIF
    have e2 : pasN f n d l = l.length := by omega
    rw [e2]
    go_enter Try.func104, Try.ntmps104
    go_upto_region 1 with fail
    rw [HW.out]
    go_wp2_with (go_at_call 153; refine (HIF.out).mono ?_; rintro e_ w1 ⟨rfl, hb1⟩; have hX1 := hX.bel hb1; have y1 : w1.cell? ⟨w.heap.size, 1, none⟩ = some (.slice A l.length c) := hX1.cell 1)
    go_ret
    exact ⟨rfl, bel_tr hbel hbel.size hb1⟩
end Go.Proofs.Ytkcjiejdjdcbeaa

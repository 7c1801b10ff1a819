/- Contracts: partners of a code. -/
import Derived.Test.YtmedjedmeggbpaaDoorW4
namespace Go.Proofs.YtmedjedmeggbpaaDoor
open Go.RowKit
set_option maxRecDepth 100000

/-- A function's contract from its body, where the body holds a loop over a function. -/
theorem calls_marks {P : Program} {f : FuncId} {fn : Func} {c : Code} {args : Array Value} {w : World} {R : Ending → World → Prop} (n : Nat) (hf : P.funcs[f]? = some fn) (hb : fn.body = some c)
    (h : c.wp P (bodyPostM Fence.wide n P fn R) { tmps := args ++ Array.replicate (fn.ntmps - args.size) undef, defers := [] } w) : Calls P f args w R :=
  callsIn_wide.1 (callsIn_of_wp_marks (n := n) hf hb trivial (wpIn_wide.2 h))

section
variable {W0 wx w1 : World} {p : Addr} {v : Value} {B : Nat}
/-- What a region with loads beside calls keeps: a cell, and that nothing below has turned. -/
theorem held_bel (h : wx.cell? p = some v ∧ Below B W0 wx) (hb : Below wx.heap.size wx w1) (hB : B ≤ wx.heap.size) : w1.cell? p = some v ∧ Below B W0 w1 :=
  ⟨(hb.cell (World.block_lt_of_cell? _ _ h.1)).trans h.1, h.2.trans (hb.mono hB)⟩
theorem held_alloc (h : wx.cell? p = some v ∧ Below B W0 wx) (hB : B ≤ wx.heap.size) (o : Obj) : (wx.alloc o).cell? p = some v ∧ Below B W0 (wx.alloc o) :=
  held_bel h ((Below.refl _ _).alloc (Nat.le_refl _) o) hB
theorem held_drew (h : wx.cell? p = some v ∧ Below B W0 wx) : wx.drew.cell? p = some v ∧ Below B W0 wx.drew := ⟨h.1, h.2.drew⟩
end

/-- Slices that read as lists of numbers, one by one. -/
def Lists (w : World) : List Value → List (List Int) → Prop
  | [], [] => True
  | v :: vs, l :: ll => (∃ A c, v = .slice A l.length c ∧ RdT w 3 A (ints l)) ∧ Lists w vs ll
  | _, _ => False
theorem Lists.keep {w w' : World} (h : ∀ A l, RdT w 3 A (ints l) → RdT w' 3 A (ints l)) : ∀ {vs : List Value} {ll : List (List Int)}, Lists w vs ll → Lists w' vs ll
  | [], [], _ => trivial
  | _ :: _, _ :: _, ⟨⟨A, c, h1, h2⟩, h3⟩ => ⟨⟨A, c, h1, h _ _ h2⟩, Lists.keep h h3⟩
  | [], _ :: _, h => h.elim
  | _ :: _, [], h => h.elim
theorem Lists.drewN {w : World} {vs : List Value} {ll : List (List Int)} (h : Lists w vs ll) (n : Nat) : Lists (w.drewN n) vs ll :=
  Lists.keep (w := w) (w' := w.drewN n) (fun A l (h : RdT w 3 A (ints l)) => show RdT (w.drewN n) 3 A (ints l) from h) h
theorem Lists.snoc {w : World} {A : Option Addr} {c : Nat} {l : List Int} (h : RdT w 3 A (ints l)) : ∀ {vs : List Value} {ll : List (List Int)}, Lists w vs ll → Lists w (vs ++ [.slice A l.length c]) (ll ++ [l])
  | [], [], _ => ⟨⟨A, c, rfl, h⟩, trivial⟩
  | _ :: _, _ :: _, ⟨h1, h3⟩ => ⟨h1, Lists.snoc h h3⟩
  | [], _ :: _, h => h.elim
  | _ :: _, [], h => h.elim
theorem Lists.length : ∀ {w : World} {vs : List Value} {ll : List (List Int)}, Lists w vs ll → vs.length = ll.length
  | _, [], [], _ => rfl
  | _, _ :: _, _ :: _, ⟨_, h⟩ => by simp [Lists.length h]
  | _, [], _ :: _, h => h.elim
  | _, _ :: _, [], h => h.elim

/-- The error of a code whose partners are searched. -/
def partE (l : List Int) : Int := firstE [codeE l, errIf (decide ((10 : Int) < l.length)) 8]
theorem partE_zero {l : List Int} (h : partE l = 0) : codeE l = 0 ∧ l.length ≤ 10 := by
  unfold partE firstE at h
  by_cases h1 : codeE l = 0
  · rw [if_pos h1] at h
    refine ⟨h1, ?_⟩
    by_cases h2 : (10 : Int) < l.length
    · simp [firstE, errIf, h2] at h
    · omega
  · rw [if_neg h1] at h; exact absurd h h1
theorem codeE_zero {l : List Int} (h : codeE l = 0) : 1 ≤ l.length ∧ l.length ≤ 32 ∧ ∀ x ∈ l, x = 1 ∨ x = -1 := by
  unfold codeE at h
  by_cases h1 : lenE l.length 32 = 0
  · rw [if_pos h1] at h
    rw [lenE_eq] at h1
    refine ⟨?_, ?_, fun x hx => ?_⟩
    · split at h1 <;> omega
    · split at h1
      · omega
      · split at h1 <;> omega
    · obtain ⟨j, hj, rfl⟩ := List.getElem_of_mem hx
      clear hx
      -- the first bad item
      have key : ∀ j (hj : j < l.length), codeItem l[j] = 0 := by
        intro j
        induction j using Nat.strongRecOn with
        | _ j ih =>
          intro hj
          by_cases hz : codeItem l[j] = 0
          · exact hz
          · have := firstBadFrom_some (fun _ n => codeItem n) l 0 j hj (fun i hi => ih i hi (by omega)) hz
            rw [this] at h
            exact h
      have hk := key j hj
      unfold codeItem at hk
      by_cases hx : l[j] = 1 ∨ l[j] = -1
      · exact hx
      · rw [if_neg hx] at hk; omega
  · rw [if_neg h1] at h; exact absurd h h1
theorem small_of_code {l : List Int} (h : codeE l = 0) : Small l := fun x hx => by rcases (codeE_zero h).2.2 x hx with rfl | rfl <;> omega
theorem bitAt_pm (bits len i : Nat) : bitAt bits len i = 1 ∨ bitAt bits len i = -1 := by
  unfold bitAt
  have := Nat.mod_lt (bits / 2 ^ (len - 1 - i)) (show 0 < 2 by omega)
  omega
theorem small_codeL (bits len : Nat) : Small (codeL bits len) := fun x hx => by
  obtain ⟨i, _, rfl⟩ := List.mem_map.1 hx
  rcases bitAt_pm bits len i with h | h <;> omega

/-- The codes with which a code is a complementary pair, out of those of some bits. -/
def partL (l : List Int) (bs : List Nat) : List (List Int) := (bs.filter fun b => lobe l (codeL b l.length) == 0).map fun b => codeL b l.length
theorem partL_snoc_yes (l : List Int) (bs : List Nat) (b : Nat) (h : lobe l (codeL b l.length) = 0) : partL l (bs ++ [b]) = partL l bs ++ [codeL b l.length] := by
  simp [partL, List.filter_append, h]
theorem partL_snoc_no (l : List Int) (bs : List Nat) (b : Nat) (h : lobe l (codeL b l.length) ≠ 0) : partL l (bs ++ [b]) = partL l bs := by
  simp [partL, List.filter_append, h]
theorem partL_length (l : List Int) (bs : List Nat) : (partL l bs).length ≤ bs.length := by
  simp [partL]; exact List.length_filter_le _ _

/-- What a variable's box holds: a slice of its own of slices that read as ll. -/
def Held (n₀ p : Nat) (ll : List (List Int)) (W : World) : Prop := ∃ v vs, Boxed W p 42 v ∧ W.ownsRow n₀ 22 1 v ll.length vs ∧ Lists W vs ll

theorem Held.stable (n₀ p : Nat) (ll : List (List Int)) : Stable (Held n₀ p ll) := fun _ _ ⟨v, vs, h1, h2, h3⟩ hb =>
  ⟨v, vs, boxed_bel h1 hb, ownsRow_bel h2 hb, h3.keep fun _ _ h => h.bel hb⟩
theorem Held.deaf (n₀ p B : Nat) (ll : List (List Int)) : Deaf B (Held n₀ p ll) := fun _ _ _ o' ⟨v, vs, h1, h2, h3⟩ _ hl ho =>
  ⟨v, vs, boxed_putObj h1 o' hl ho, ownsRow_putObj h2 o' hl ho, h3.keep fun _ _ h => h.putObj o' hl ho⟩
end Go.Proofs.YtmedjedmeggbpaaDoor

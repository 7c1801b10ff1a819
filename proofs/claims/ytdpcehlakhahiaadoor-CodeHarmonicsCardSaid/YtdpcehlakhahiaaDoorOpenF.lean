/- Arguments opened: slices of frames. No condition. -/
import Derived.Test.YtdpcehlakhahiaaDoorMH
import Derived.Test.YtdpcehlakhahiaaDoorMG
import Derived.Test.YtdpcehlakhahiaaDoorP15
namespace Go.Proofs.YtdpcehlakhahiaaDoor
open Go.RowKit Go.ChangeShapes Go.WideShapes Go.ChangeAt
set_option maxRecDepth 100000

theorem cellsFr : Tryd.prog.cellsOf 47 = 4 := by kernel_rfl
theorem cellsSG : Tryd.prog.cellsOf 45 = 1 := by kernel_rfl
theorem cellsSI : Tryd.prog.cellsOf 22 = 1 := by kernel_rfl

theorem wf_bd {n : Int} (h : (Lit.int .i64 n).wf = true) : -9223372036854775808 ≤ n ∧ n ≤ 9223372036854775807 := by
  have h2 := Bool.and_eq_true_iff.1 (show (decide (IntKind.i64.min ≤ n) && decide (n ≤ IntKind.i64.max)) = true from h)
  have a := of_decide_eq_true h2.1
  have b := of_decide_eq_true h2.2
  have ea : IntKind.i64.min = -9223372036854775808 := by rfl
  have eb : IntKind.i64.max = 9223372036854775807 := by rfl
  omega

section
variable {H : Type} {enc : TypeId × Value → H} {w : World} {base : Nat} {sp : Nat → Bool} {held : Bool}
/-- What a frame refers to reads as its lists. -/
def Fr.rd (w : World) (f : Fr) : Prop := Rd w f.A (gs f.samples) ∧ Rd w f.G (ints f.gaps)
theorem frame_of_trod {m : Nat} {cs : List Value} {x : DataW H × List MemPlace} (h : DataW.trod enc Tryd.prog w base sp held m 47 cs = some x) : ∃ f : Fr, cs = f.row ∧ f.rd w := by
  obtain ⟨y0, y1, y2, y3, n, rfl, hl, h0, h1, h2, h3⟩ := Joins.trod_struct4 Tryd.underlying47 h
  rw [cellsFr] at hl
  simp only [cellsI, cellsSG, cellsSI] at h0 h1 h2 h3
  match cs, hl with
  | [a, b, c, d], _ =>
    obtain ⟨u, e0, _, _⟩ := DataW.trod_int Tryd.underlying3 h0
    obtain ⟨v, e1, _, _⟩ := DataW.trod_int Tryd.underlying3 h1
    simp at e0 e1 h2 h3
    obtain ⟨A, s, cA, rfl, r2, _⟩ := open_gs_rd h2
    obtain ⟨G, g, cG, rfl, r3, _, _⟩ := open_ints_rd h3
    exact ⟨⟨u, v, A, cA, s, G, cG, g⟩, by rw [e0, e1]; rfl, r2, r3⟩

theorem open_frames_rd {m : Nat} {v : Value} {x : DataW H × List MemPlace} (h : DataW.trod enc Tryd.prog w base sp held m 41 [v] = some x) :
    ∃ (F : Option Addr) (l : List Fr) (c : Nat), v = .slice F l.length c ∧ Rd w F (l.map Fr.row).flatten ∧ (∀ f ∈ l, f.rd w) ∧ l.length ≤ maxLen := by
  rcases Go.Deep.open_slice Tryd.underlying41 h with ⟨h1, _⟩ | ⟨a, len, cap, m', n, D, Pl, h1, _, hl, hm, hmm, _, hel⟩
  · simp only [List.cons.injEq, and_true] at h1
    exact ⟨none, [], 0, h1, Rd.nil _ _, (fun f h => by cases h), by simp⟩
  · simp only [List.cons.injEq, and_true] at h1
    have hml : len ≤ m' := by rw [hmm]; split <;> omega
    have hg : ∀ i, i < len → ∃ f : Fr, (∀ j, j < 4 → w.cell? ((a.add (i * 4)).add j) = f.row[j]?) ∧ f.rd w := fun i hi => by
      obtain ⟨cs', hc, ht⟩ := hel i (by omega)
      rw [cellsFr] at hc
      obtain ⟨f, rfl, hf⟩ := frame_of_trod ht
      obtain ⟨_, _, hat⟩ := World.cells?_some hc
      refine ⟨f, fun j hj => ?_, hf⟩
      have e : j = 0 ∨ j = 1 ∨ j = 2 ∨ j = 3 := by omega
      rcases e with rfl | rfl | rfl | rfl
      · exact hat 0 (by omega)
      · exact hat 1 (by omega)
      · exact hat 2 (by omega)
      · exact hat 3 (by omega)
    obtain ⟨l, hll, hlp⟩ := list_of_all (P := fun i (f : Fr) => (∀ j, j < 4 → w.cell? ((a.add (i * 4)).add j) = f.row[j]?) ∧ f.rd w) len hg
    refine ⟨some a, l, cap, by rw [hll]; exact h1, fun hx => ?_, fun f hf => ?_, by omega⟩
    · have hp : 0 < l.length := by
        rcases Nat.eq_zero_or_pos l.length with h0 | h0
        · rw [List.eq_nil_of_length_eq_zero h0] at hx; exact absurd rfl hx
        · exact h0
      obtain ⟨b, off, spot⟩ := a
      have h00 := (hlp 0 hp).1 0 (by omega)
      have hspot : spot = none := by
        have : w.cell? (((⟨b, off, spot⟩ : Addr).add (0 * 4)).add 0) = some (.int .i64 l[0].gain) := h00
        simpa [Addr.add] using World.cell?_spot this
      subst hspot
      have hcell : ∀ i (hi : i < l.length) j, j < 4 → w.cell? ⟨b, off + i * 4 + j, none⟩ = l[i].row[j]? := fun i hi j hj => by
        have := (hlp i hi).1 j hj
        simpa only [add_plain] using this
      refine ⟨b, off, rfl, World.block_lt_of_cell? _ _ (show w.cell? ⟨b, off + 0 * 4 + 0, none⟩ = some (.int .i64 l[0].gain) from hcell 0 hp 0 (by omega)), fun j u hu => ?_⟩
      have hlen : (l.map Fr.row).flatten.length = l.length * 4 := by
        clear hu hx hcell hlp h00 hll h1 hel
        induction l with
        | nil => rfl
        | cons f l ih =>
          simp only [List.map_cons, List.flatten_cons, List.length_append, List.length_cons]
          cases l with
          | nil => simp [Fr.row]
          | cons g l => rw [ih (by simp)]; simp [Fr.row]; omega
      have hj : j < l.length * 4 := by have := (List.getElem?_eq_some_iff.1 hu).1; rwa [hlen] at this
      have hq : j / 4 < l.length := by omega
      have hf : ∀ r ∈ l.map Fr.row, r.length = 4 := fun r h => by obtain ⟨f, _, rfl⟩ := List.mem_map.1 h; rfl
      have hfl := flat_at hf (j / 4) (by simpa using hq) (j % 4) (by omega)
      rw [show j / 4 * 4 + j % 4 = j by omega] at hfl
      rw [hfl, List.getElem_map] at hu
      rw [← hu, ← hcell _ hq _ (by omega), Nat.add_assoc, show j / 4 * 4 + j % 4 = j by omega]
    · obtain ⟨i, hi, rfl⟩ := List.getElem_of_mem hf
      exact (hlp i hi).2
end
end Go.Proofs.YtdpcehlakhahiaaDoor

/- Law: two ways to laminate. -/
import Derived.Test.YtgnhkjfdicdcmaaK7
import Derived.Test.YtgnhkjfdicdcmaaFV
namespace Go.Proofs.Ytgnhkjfdicdcmaa
open Go.RowKit
set_option maxRecDepth 100000

theorem quiet_eq {f : FuncId} {args : Array Value} {w : World} {n : Nat} {v : Value}
    (h : Calls Try.prog f args (w.drewN n) fun e w' => e = .returned v ∧ w.drewN n = w') : Calls Try.prog f args (w.drewN n) fun e w'' => e = .returned v ∧ ∃ m, w'' = w.drewN m :=
  Calls.quiet_of_same (h.mono fun _ _ h => ⟨h.1, h.2.symm⟩)
theorem Rd.ps_take {w : World} {A : Option Addr} {l : List PT} (h : Rd w A (ps l)) (n : Nat) : Rd w A (ps (l.take n)) := by
  intro hx
  have hne : ps l ≠ [] := by
    intro e
    apply hx
    have : l.length = 0 := by have := ps_length l; rw [e] at this; simp at this; omega
    rw [List.eq_nil_of_length_eq_zero this]
    simp
  obtain ⟨b, off, e, hb, hc⟩ := h hne
  refine ⟨b, off, e, hb, fun j u hu => hc j u ?_⟩
  have hp : ps (l.take n) <+: ps l := by
    have := congrArg ps (List.take_append_drop n l)
    rw [ps_append] at this
    exact ⟨_, this⟩
  obtain ⟨t, ht⟩ := hp
  rw [← ht]
  have hj : j < (ps (l.take n)).length := (List.getElem?_eq_some_iff.1 hu).1
  rw [List.getElem?_append_left hj]
  exact hu

theorem Rd.gs_take {w : World} {A : Option Addr} {l : List G} (h : Rd w A (gs l)) (n : Nat) : Rd w A (gs (l.take n)) := by
  intro hx
  have hp : gs (l.take n) <+: gs l := by
    have := congrArg gs (List.take_append_drop n l)
    rw [gs_append] at this
    exact ⟨_, this⟩
  obtain ⟨t, ht⟩ := hp
  have hne : gs l ≠ [] := by
    intro e
    rw [e] at ht
    exact hx (List.append_eq_nil_iff.1 ht).1
  obtain ⟨b, off, e, hb, hc⟩ := h hne
  refine ⟨b, off, e, hb, fun j u hu => hc j u ?_⟩
  rw [← ht]
  have hj : j < (gs (l.take n)).length := (List.getElem?_eq_some_iff.1 hu).1
  rw [List.getElem?_append_left hj]
  exact hu
theorem ps_set2 {l : List PT} {k : Nat} (hk : k < l.length) (a b : Int) : ((ps l).set (k * 3 + 1) (.int .i64 a)).set (k * 3 + 2) (.int .i64 b) = ps (l.set k (l[k].1, a, b)) := by
  induction l generalizing k with
  | nil => simp at hk
  | cons g l ih =>
    cases k with
    | zero => rfl
    | succ k =>
      have := ih (k := k) (by simpa using hk)
      rw [List.set_cons_succ, ps_cons, ps_cons, show (k + 1) * 3 + 1 = k * 3 + 1 + 3 by omega, show (k + 1) * 3 + 2 = k * 3 + 2 + 3 by omega]
      simp only [List.set_cons_succ, List.getElem_cons_succ]
      rw [this]
/-- The lamination of a trace that is moved. -/
theorem lamMoved_c {l : List PT} {after width u : Int} (hT : Tr l after width) (hM : Tr (movedT u l) after width) (A : Option Addr) (c : Nat) (W : World) (h : Rd W A (ps (movedT u l))) :
    Calls Try.prog 53 #[.agg #[.slice A l.length c, .int .i64 after, .int .i64 width]] W fun r w' =>
      (((lam l after width (l.length - 1)).2 = 0 ∧ ∃ A c, r = .returned (.tuple #[.slice A (l.length - 1) c, .int .i64 0, .int .i64 0]) ∧ Rd w' A (gs (lam l after width (l.length - 1)).1)) ∨ ((lam l after width (l.length - 1)).2 ≠ 0 ∧ r = .returned (.tuple #[.slice none 0 0, .int .i64 (lam l after width (l.length - 1)).2, .int .i64 13]))) ∧ Below W.heap.size W w' := by
  have h3 := laminatedAll_ok A c after width (movedT u l) W h hM
  rw [movedT_length] at h3
  refine h3.mono ?_
  rintro r w' ⟨h4, hb⟩
  rw [movedT_length, lam_moved u hT.a0 hT.a1 (by have := hT.n0; omega)] at h4
  refine ⟨?_, hb⟩
  rcases h4 with ⟨e, a, b, e2, hr⟩ | h4
  · exact .inl ⟨e, a, b, e2, hr.1⟩
  · exact .inr h4
def upG (u : Int) (g : G) : G := (g.1 + u, g.2 + u)
theorem hts_moved (u : Int) {l : List PT} {after width : Int} (h : 0 < l.length) (L : List G) (k : Nat) : hts (movedT u l) after width L k = (hts l after width L k).map (upG u) := by
  induction k with
  | zero => rfl
  | succ k ih => rw [hts, hts, ih, htL_moved u h, List.map_append]; rfl
theorem heightsMoved_c {l : List PT} {after width u : Int} (hT : Tr l after width) (hM : Tr (movedT u l) after width) (h0 : (lam l after width (l.length - 1)).2 = 0) (A : Option Addr) (c : Nat) (W : World) (h : Rd W A (ps (movedT u l))) :
    Calls Try.prog 54 #[.agg #[.slice A l.length c, .int .i64 after, .int .i64 width]] W fun r w' => (∃ A' c', r = .returned (.tuple #[.slice A' l.length c', .int .i64 0]) ∧ Rd w' A' (gs ((hts l after width (lam l after width (l.length - 1)).1 l.length).map (upG u)))) ∧ Below W.heap.size W w' := by
  have hn := hT.n0
  have e := lam_moved u (width := width) hT.a0 hT.a1 (k := l.length - 1) (by omega)
  have h3 := heightsOf_ok A c after width (movedT u l) W h hM (by rw [movedT_length, e]; exact h0)
  rw [movedT_length, e, hts_moved u (by omega)] at h3
  exact h3
theorem hts_get (l : List PT) (after width : Int) (L : List G) {k n : Nat} (hk : k < n) (h : k < (hts l after width L n).length) : (hts l after width L n)[k] = htL l after width L k := by
  induction n with
  | zero => omega
  | succ n ih =>
    rcases Nat.lt_or_ge k n with h1 | h1
    · have := ih h1 (by simpa using h1)
      simp only [hts]
      rw [List.getElem_append_left (by simpa using h1)]
      exact this
    · have : k = n := by omega
      subst this
      exact hts_last l after width L k h
/-- The lamination of the part. -/
theorem lamPart_c {l : List PT} {after width : Int} (hT : Tr l after width) {nn : Nat} (h1 : 1 ≤ nn) (h2 : nn ≤ l.length) (A : Option Addr) (c : Nat) (W : World) (h : Rd W A (ps (l.take nn))) :
    Calls Try.prog 53 #[.agg #[.slice A nn c, .int .i64 (min after ((nn : Int) - 1)), .int .i64 width]] W fun r w' =>
      (((lam l after width (nn - 1)).2 = 0 ∧ ∃ A c, nn - 1 ≤ c ∧ r = .returned (.tuple #[.slice A (nn - 1) c, .int .i64 0, .int .i64 0]) ∧ Rd w' A (gs (lam l after width (nn - 1)).1)) ∨ ((lam l after width (nn - 1)).2 ≠ 0 ∧ r = .returned (.tuple #[.slice none 0 0, .int .i64 (lam l after width (nn - 1)).2, .int .i64 13]))) ∧ Below W.heap.size W w' := by
  have hlen : (l.take nn).length = nn := by simp; omega
  have h3 := laminatedAllCap_ok A c (min after ((nn : Int) - 1)) width (l.take nn) W h (hT.cut h1 h2)
  rw [hlen] at h3
  refine h3.mono ?_
  rintro r w' ⟨h4, hb⟩
  rw [hlen, lam_cut hT.a0 (show nn - 1 + 1 ≤ nn by omega)] at h4
  refine ⟨?_, hb⟩
  rcases h4 with ⟨e, a, b, hc, e2, hr⟩ | h4
  · exact .inl ⟨e, a, b, hc, e2, hr.1⟩
  · exact .inr h4
theorem copyPart_c {l : List PT} {nn : Nat} (h2 : nn ≤ l.length) (hl : l.length ≤ 1000) (A : Option Addr) (c : Nat) (a2 width : Int) (W : World) (h : Rd W A (ps (l.take nn))) :
    Calls Try.prog 52 #[.agg #[.slice A nn c, .int .i64 a2, .int .i64 width]] W fun r w' => (∃ A' c', r = .returned (.agg #[.slice A' nn c', .int .i64 a2, .int .i64 width]) ∧ Rd w' A' (ps (l.take nn))) ∧ Below W.heap.size W w' := by
  have hlen : (l.take nn).length = nn := by simp; omega
  have h3 := copyTrace_c A c a2 width (l.take nn) W h (by omega)
  rwa [hlen] at h3
end Go.Proofs.Ytgnhkjfdicdcmaa

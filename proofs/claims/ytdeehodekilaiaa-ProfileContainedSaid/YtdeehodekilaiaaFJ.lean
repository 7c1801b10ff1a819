/- Joined profiles, layers, rising as plain data. No condition. -/
import Derived.Test.YtdeehodekilaiaaQB
set_option linter.unusedSimpArgs false
set_option linter.unusedVariables false
namespace Go.Proofs.Ytdeehodekilaiaa

/-- One slab more, joined to the last one where that is permitted. -/
def joinS (out : List G) (s : G) : List G :=
  if s.2 = 0 then out
  else if 1 ≤ out.length ∧ (out.getD (out.length - 1) G0).1 = s.1 ∧ (out.getD (out.length - 1) G0).2 + s.2 ≤ 500 then out.set (out.length - 1) ((out.getD (out.length - 1) G0).1, (out.getD (out.length - 1) G0).2 + s.2)
  else out ++ [s]
def joinN (l : List G) : Nat → List G
  | 0 => []
  | k + 1 => joinS (joinN l k) (l.getD k G0)
/-- The joined slabs. -/
def joined (l : List G) : List G := if (joinN l l.length).length = 0 then [l.getD 0 G0] else joinN l l.length

def thk : List G → Int
  | [] => 0
  | g :: l => g.2 + thk l
def cont : List G → Int
  | [] => 0
  | g :: l => g.1 * g.2 + cont l
theorem thk_append (l m : List G) : thk (l ++ m) = thk l + thk m := by
  induction l with
  | nil => simp [thk]
  | cons g l ih => simp only [List.cons_append, thk, ih]; omega
theorem cont_append (l m : List G) : cont (l ++ m) = cont l + cont m := by
  induction l with
  | nil => simp [cont]
  | cons g l ih => simp only [List.cons_append, cont, ih]; omega
theorem thk_nonneg {l : List G} (h : ∀ g ∈ l, 0 ≤ g.2) : 0 ≤ thk l := by
  induction l with
  | nil => simp [thk]
  | cons g l ih =>
    have h1 := h g (by simp)
    have h2 := ih fun x hx => h x (by simp [hx])
    simp only [thk]; omega
theorem plG_append {h b : Int} {l m : List G} (hl : ∀ g ∈ l, 0 ≤ g.2) (hb : b ≤ h) : plG h b (l ++ m) = if h < b + thk l then plG h b l else plG h (b + thk l) m := by
  induction l generalizing b with
  | nil => simp only [List.nil_append, thk, Int.add_zero]; rw [if_neg (by omega)]
  | cons g l ih =>
    have h2 := thk_nonneg (l := l) fun x hx => hl x (List.mem_cons_of_mem g hx)
    have e : thk (g :: l) = g.2 + thk l := rfl
    rw [e, List.cons_append, plG, plG]
    by_cases h3 : h < b + g.2
    · rw [if_pos h3, if_pos h3, if_pos (by omega)]
    · rw [if_neg h3, if_neg h3, ih (fun x hx => hl x (List.mem_cons_of_mem g hx)) (by omega), Int.add_assoc]
theorem plG_over {h b : Int} {l : List G} (hl : ∀ g ∈ l, 0 ≤ g.2) (hh : b + thk l ≤ h) : plG h b l = 0 := by
  induction l generalizing b with
  | nil => rfl
  | cons g l ih =>
    have h2 := thk_nonneg (l := l) fun x hx => hl x (List.mem_cons_of_mem g hx)
    simp only [thk] at hh
    rw [plG, if_neg (by omega)]
    exact ih (fun x hx => hl x (by simp [hx])) (by omega)

/-- The good slabs. -/
def Good (l : List G) : Prop := ∀ g ∈ l, 0 ≤ g.1 ∧ g.1 ≤ 9000000 ∧ 0 ≤ g.2 ∧ g.2 ≤ 500
/-- Two lists that look the same. -/
structure Alike (out l : List G) : Prop where
  good : Good out
  thk : thk out = thk l
  cont : cont out = cont l
  pl : ∀ b h, b ≤ h → plG h b out = plG h b l
theorem joinS_alike {out l : List G} {s : G} (H : Alike out l) (hl : Good l) (hs : 0 ≤ s.1 ∧ s.1 ≤ 9000000 ∧ 0 ≤ s.2 ∧ s.2 ≤ 500) : Alike (joinS out s) (l ++ [s]) := by
  have n1 : ∀ g ∈ out, 0 ≤ g.2 := fun g hg => (H.good g hg).2.2.1
  have n2 : ∀ g ∈ l, 0 ≤ g.2 := fun g hg => (hl g hg).2.2.1
  unfold joinS
  split
  · rename_i h0
    refine ⟨H.good, by rw [H.thk, thk_append]; simp [thk, h0], by rw [H.cont, cont_append]; simp [cont, h0], fun b h hb => ?_⟩
    rw [H.pl b h hb, plG_append n2 hb]
    split
    · rfl
    · rename_i h1
      rw [plG_over n2 (by omega)]
      simp only [plG]
      split <;> omega
  · split
    · rename_i h0 h1
      obtain ⟨a1, a2, a3⟩ := h1
      obtain ⟨pre, x, rfl⟩ : ∃ pre x, out = pre ++ [x] := ⟨out.dropLast, out.getLast (by rintro rfl; simp at a1), (List.dropLast_concat_getLast _).symm⟩
      have e1 : (pre ++ [x]).length - 1 = pre.length := by simp
      have e2 : (pre ++ [x]).getD pre.length G0 = x := by simp
      rw [e1, e2] at a2 a3 ⊢
      have e3 : (pre ++ [x]).set pre.length (x.1, x.2 + s.2) = pre ++ [(x.1, x.2 + s.2)] := by
        rw [List.set_append_right _ _ (by simp)]; simp
      rw [e3]
      have hx := H.good x (by simp)
      have n3 : ∀ g ∈ pre, 0 ≤ g.2 := fun g hg => n1 g (by simp [hg])
      have t1 := H.thk
      have t2 := H.cont
      rw [thk_append] at t1
      rw [cont_append] at t2
      simp only [thk, cont] at t1 t2
      refine ⟨fun g hg => ?_, ?_, ?_, fun b h hb => ?_⟩
      · rcases List.mem_append.1 hg with hg | hg
        · exact H.good g (by simp [hg])
        · simp at hg; subst hg; dsimp only; omega
      · rw [thk_append, thk_append]; simp only [thk]; omega
      · rw [cont_append, cont_append]; simp only [cont, Int.mul_add]; rw [a2] at t2 ⊢; omega
      · rw [plG_append n3 hb, plG_append n2 hb]
        have hp := H.pl b h hb
        rw [plG_append n3 hb] at hp
        have q1 := thk_nonneg n3
        by_cases h1 : h < b + thk pre
        · rw [if_pos h1] at hp ⊢
          rw [if_pos (by omega), hp]
        · rw [if_neg h1] at hp ⊢
          by_cases h2 : h < b + thk pre + x.2
          · rw [if_pos (by omega), ← hp]
            simp only [plG]
            rw [if_pos (by omega), if_pos h2]
          · rw [if_neg (by omega)]
            simp only [plG, show b + thk l + s.2 = b + thk pre + (x.2 + s.2) by omega, a2]
    · rename_i h0 h1
      refine ⟨fun g hg => ?_, by rw [thk_append, thk_append, H.thk], by rw [cont_append, cont_append, H.cont], fun b h hb => ?_⟩
      · rcases List.mem_append.1 hg with hg | hg
        · exact H.good g hg
        · simp at hg; subst hg; exact hs
      · rw [plG_append n1 hb, plG_append n2 hb, H.thk, H.pl b h hb]
theorem joinS_length (out : List G) (s : G) : (joinS out s).length ≤ out.length + 1 := by
  unfold joinS
  split
  · omega
  · split <;> simp
theorem joinN_length (l : List G) (k : Nat) : (joinN l k).length ≤ k := by
  induction k with
  | zero => simp [joinN]
  | succ k ih => have := joinS_length (joinN l k) (l.getD k G0); simp only [joinN]; omega
theorem joinN_alike {l : List G} (hl : Good l) {k : Nat} (hk : k ≤ l.length) : Alike (joinN l k) (l.take k) := by
  induction k with
  | zero => exact ⟨fun g hg => by simp [joinN] at hg, rfl, rfl, fun _ _ _ => by simp [joinN]⟩
  | succ k ih =>
    have hlt : k < l.length := by omega
    have := joinS_alike (ih (by omega)) (fun g hg => hl g (List.mem_of_mem_take hg)) (hl _ (List.getElem_mem hlt))
    rw [joinN, getD_at hlt, List.take_succ_eq_append_getElem hlt]
    exact this
theorem joinN_good {l : List G} (hl : Good l) {k : Nat} (hk : k ≤ l.length) : Good (joinN l k) := (joinN_alike hl hk).good
/-- A sum of thicknesses that is 0: nothing is there. -/
theorem joined_alike {l : List G} (hl : Good l) (h1 : 1 ≤ l.length) : Alike (joined l) l := by
  have H := joinN_alike hl (Nat.le_refl l.length)
  rw [List.take_length] at H
  unfold joined
  split
  · rename_i h0
    have e : joinN l l.length = [] := List.eq_nil_of_length_eq_zero h0
    rw [e] at H
    have n2 : ∀ g ∈ l, 0 ≤ g.2 := fun g hg => (hl g hg).2.2.1
    obtain ⟨g, m, rfl⟩ : ∃ g m, l = g :: m := by cases l with | nil => simp at h1 | cons g m => exact ⟨g, m, rfl⟩
    have t := H.thk
    have t2 := H.cont
    simp only [thk, cont] at t t2
    have hg := n2 g (by simp)
    have hm := thk_nonneg fun x hx => n2 x (List.mem_cons_of_mem g hx)
    have hz : g.2 = 0 := by omega
    have e : (g :: m).getD 0 G0 = g := rfl
    rw [e]
    refine ⟨fun x hx => by simp at hx; subst hx; exact hl x (by simp), by simp only [thk]; omega, ?_, fun b h hb => ?_⟩
    · simp only [cont]; rw [← t2, hz]; simp
    · rw [← H.pl b h hb]
      simp only [plG]
      rw [if_neg (by omega)]
  · exact H
theorem joined_len {l : List G} (h1 : 1 ≤ l.length) : 1 ≤ (joined l).length ∧ (joined l).length ≤ l.length := by
  have := joinN_length l l.length
  unfold joined
  split
  · simp; omega
  · omega
theorem Pro.joined {base : Int} {l : List G} (h : Pro base l) : Pro base (joined l) := by
  have hl := joined_len h.n0
  have hn := h.n1
  exact ⟨h.b0, h.b1, hl.1, by omega, (joined_alike h.all h.n0).good⟩
theorem plasma_joined {base : Int} {l : List G} (h : Pro base l) : plasma base (joined l) = plasma base l := by
  funext x
  unfold plasma
  split
  · rfl
  · exact (joined_alike h.all h.n0).pl base x (by omega)
theorem content_take {l : List G} {k : Nat} (hk : k ≤ l.length) : content l k = cont (l.take k) := by
  induction k with
  | zero => rfl
  | succ k ih =>
    have hlt : k < l.length := by omega
    rw [content, ih (by omega), List.take_succ_eq_append_getElem hlt, cont_append, getD_at hlt]
    simp [cont]
theorem content_joined {base : Int} {l : List G} (h : Pro base l) : content (joined l) (joined l).length = content l l.length := by
  rw [content_take (Nat.le_refl _), content_take (Nat.le_refl _), List.take_length, List.take_length]
  exact (joined_alike h.all h.n0).cont
theorem dist_joined {base : Int} {l : List G} (h : Pro base l) : dist base l base (joined l) = 0 := by
  unfold dist; rw [plasma_joined h]; exact dst_self _ _

/-- The indexes of slabs with a thickness above 0, of the first k. -/
def thickN (l : List G) : Nat → List Nat
  | 0 => []
  | k + 1 => if 0 < (l.getD k G0).2 then thickN l k ++ [k] else thickN l k
def sqT (l : List G) (T : List Nat) (n : Nat) : Int := (l.getD (T.getD n 0) G0).1
/-- The squares beside a slab: the one below, the one above. -/
def bDown (l : List G) : Nat → Int
  | 0 => 0
  | k + 1 => if 0 < (l.getD k G0).2 then (l.getD k G0).1 else bDown l k
def bUpL : List G → Int
  | [] => 0
  | g :: l => if 0 < g.2 then g.1 else bUpL l
def bUp (l : List G) (k : Nat) : Int := bUpL (l.drop k)
theorem bUp_step {l : List G} {k : Nat} (hk : k < l.length) : bUp l k = if 0 < (l.getD k G0).2 then (l.getD k G0).1 else bUp l (k + 1) := by
  unfold bUp; rw [List.drop_eq_getElem_cons hk, bUpL, getD_at hk]
theorem bUp_end {l : List G} {k : Nat} (hk : l.length ≤ k) : bUp l k = 0 := by
  unfold bUp; rw [List.drop_eq_nil_of_le hk]; rfl
/-- The layers, as the document's words count them, and as the program does. -/
def layR (l : List G) : Nat → List Int
  | 0 => []
  | k + 1 => if 0 < (l.getD k G0).2 ∧ bDown l k < (l.getD k G0).1 ∧ bUp l (k + 1) < (l.getD k G0).1 then layR l k ++ [(k : Int)] else layR l k
def belowT (l : List G) (T : List Nat) (n : Nat) : Int := if 0 < n then sqT l T (n - 1) else 0
def aboveT (l : List G) (T : List Nat) (n : Nat) : Int := if (n : Int) < (T.length : Int) - 1 then sqT l T (n + 1) else 0
def layP (l : List G) (T : List Nat) : Nat → List Int
  | 0 => []
  | n + 1 => if max (belowT l T n) (aboveT l T n) < sqT l T n then layP l T n ++ [((T.getD n 0 : Nat) : Int)] else layP l T n
theorem thickN_length (l : List G) (k : Nat) : (thickN l k).length ≤ k := by
  induction k with
  | zero => simp [thickN]
  | succ k ih => rw [thickN]; split
                 · simp; omega
                 · omega
theorem thickN_mem {l : List G} {k i : Nat} (h : i ∈ thickN l k) : i < k := by
  induction k with
  | zero => simp [thickN] at h
  | succ k ih =>
    rw [thickN] at h
    split at h
    · rcases List.mem_append.1 h with h | h
      · have := ih h; omega
      · simp at h; omega
    · have := ih h; omega
theorem thickN_prefix (l : List G) {k n : Nat} (h : k ≤ n) : thickN l k <+: thickN l n := by
  induction n with
  | zero => have : k = 0 := by omega
            subst this; exact List.prefix_refl _
  | succ n ih =>
    rcases Nat.lt_or_ge n k with h1 | h1
    · have : k = n + 1 := by omega
      subst this; exact List.prefix_refl _
    · refine (ih h1).trans ?_
      rw [thickN]
      split
      · exact List.prefix_append _ _
      · exact List.prefix_refl _
theorem prefix_getD {α : Type} {a b : List α} {d : α} (h : a <+: b) {i : Nat} (hi : i < a.length) : b.getD i d = a.getD i d := by
  obtain ⟨t, rfl⟩ := h
  simp [List.getD, List.getElem?_append_left hi]
theorem bDown_eq (l : List G) {k n : Nat} (h : k ≤ n) : bDown l k = if 0 < (thickN l k).length then sqT l (thickN l n) ((thickN l k).length - 1) else 0 := by
  induction k with
  | zero => simp [bDown, thickN]
  | succ k ih =>
    rw [bDown, thickN]
    split
    · rename_i h0
      have hp := thickN_prefix l h
      rw [thickN, if_pos h0] at hp
      rw [if_pos (by simp)]
      unfold sqT
      rw [prefix_getD hp (by simp)]
      simp
    · exact ih (by omega)
theorem bUp_eq (l : List G) {k : Nat} (h : k ≤ l.length) : bUp l k = if (thickN l k).length < (thickN l l.length).length then sqT l (thickN l l.length) (thickN l k).length else 0 := by
  obtain ⟨m, hm⟩ : ∃ m, l.length - k = m := ⟨_, rfl⟩
  induction m generalizing k with
  | zero =>
    have : k = l.length := by omega
    subst this
    rw [bUp_end (Nat.le_refl _), if_neg (by omega)]
  | succ m ih =>
    rw [bUp_step (by omega)]
    have hp := thickN_prefix l (show k + 1 ≤ l.length by omega)
    have h1 := ih (k := k + 1) (by omega) (by omega)
    rw [thickN] at hp h1
    split
    · rename_i h0
      rw [if_pos h0] at hp
      have hl := hp.length_le
      rw [List.length_append, List.length_singleton] at hl
      rw [if_pos (by omega)]
      unfold sqT
      rw [prefix_getD hp (by simp)]
      simp
    · rename_i h0
      rw [if_neg h0] at h1
      exact h1
theorem lay_eq (l : List G) {k : Nat} (h : k ≤ l.length) : layP l (thickN l l.length) (thickN l k).length = layR l k := by
  induction k with
  | zero => simp [thickN, layP, layR]
  | succ k ih =>
    have h1 := ih (by omega)
    have hu := bUp_eq l h
    have hd := bDown_eq l (show k ≤ l.length by omega)
    have hp := thickN_prefix l h
    rw [thickN] at hu hp
    rw [layR, thickN]
    by_cases h0 : 0 < (l.getD k G0).2
    · rw [if_pos h0] at hu hp ⊢
      have e : (thickN l k ++ [k]).length = (thickN l k).length + 1 := by simp
      have e2 : (thickN l l.length).getD (thickN l k).length 0 = k := by rw [prefix_getD hp (by simp)]; simp
      have e3 : sqT l (thickN l l.length) (thickN l k).length = (l.getD k G0).1 := by unfold sqT; rw [e2]
      have e4 : belowT l (thickN l l.length) (thickN l k).length = bDown l k := by rw [hd]; rfl
      have e5 : aboveT l (thickN l l.length) (thickN l k).length = bUp l (k + 1) := by
        rw [hu, e]; unfold aboveT
        by_cases h2 : (thickN l k).length + 1 < (thickN l l.length).length
        · rw [if_pos h2, if_pos (by omega)]
        · rw [if_neg h2, if_neg (by omega)]
      rw [e, layP, e3, e4, e5, e2, h1]
      by_cases h2 : max (bDown l k) (bUp l (k + 1)) < (l.getD k G0).1
      · rw [if_pos h2, if_pos ⟨h0, by omega, by omega⟩]
      · rw [if_neg h2, if_neg (by omega)]
    · rw [if_neg h0, if_neg (by omega), h1]

/-- Rising, of the first slabs up to k. -/
def risN (l : List G) : Nat → Bool
  | 0 => true
  | k + 1 => risN l k && decide ((l.getD k G0).1 < (l.getD (k + 1) G0).1)
theorem risN_false {l : List G} {k n : Nat} (h : risN l k = false) (hk : k ≤ n) : risN l n = false := by
  induction n with
  | zero => have : k = 0 := by omega
            subst this; exact h
  | succ n ih =>
    rcases Nat.lt_or_ge n k with h1 | h1
    · have : k = n + 1 := by omega
      subst this; exact h
    · rw [risN, ih h1]; rfl
end Go.Proofs.Ytdeehodekilaiaa

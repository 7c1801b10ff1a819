/- The specification's words as plain functions, shared by the program's contracts and the references'. No condition. -/
namespace Go.Proofs.YtmedjedmeggbpaaDoor

abbrev G := Int × Int

/-- The first of several errors. -/
def firstE : List Int → Int
  | [] => 0
  | e :: l => if e = 0 then firstE l else e

theorem firstE_append (l : List Int) (e : Int) (h : firstE l = 0) : firstE (l ++ [e]) = e := by
  induction l with
  | nil => simp [firstE]; intro h; exact h.symm
  | cons a l ih =>
    simp only [firstE, List.cons_append] at h ⊢
    split at h
    · rename_i h0; rw [if_pos h0]; exact ih h
    · omega

theorem firstE_take_succ (l : List Int) (k : Nat) (hk : k < l.length) (h : firstE (l.take k) = 0) : firstE (l.take (k + 1)) = l[k] := by
  rw [List.take_succ_eq_append_getElem hk]; exact firstE_append _ _ h

theorem firstE_of_take (l : List Int) (k : Nat) (h : firstE (l.take k) ≠ 0) : firstE l = firstE (l.take k) := by
  induction l generalizing k with
  | nil => simp
  | cons a l ih =>
    cases k with
    | zero => simp [firstE] at h
    | succ k =>
      simp only [List.take_succ_cons, firstE] at h ⊢
      split
      · rename_i h0; rw [if_pos h0] at h; exact ih k h
      · rfl

/-- A number beyond its range, as a test that the walk does not open. -/
def outB (n lo hi : Int) : Bool := decide (n < lo) || decide (hi < n)
theorem outB_true {n lo hi : Int} : outB n lo hi = true ↔ n < lo ∨ hi < n := by simp [outB]
theorem outB_false {n lo hi : Int} : outB n lo hi = false ↔ lo ≤ n ∧ n ≤ hi := by simp [outB]

/-- The index and the error of the first item to which a check objects, counted from k on. -/
def firstBadFrom {α : Type} (chk : Nat → α → Int) : Nat → List α → Int × Int
  | _, [] => (0, 0)
  | k, x :: l => if chk k x = 0 then firstBadFrom chk (k + 1) l else ((k : Int), chk k x)

theorem firstBadFrom_split {α : Type} (chk : Nat → α → Int) (l : List α) (k j : Nat) (hj : j < l.length) (h0 : ∀ i (hi : i < j), chk (k + i) (l[i]'(by omega)) = 0) :
    firstBadFrom chk k l = if chk (k + j) l[j] = 0 then firstBadFrom chk (k + j + 1) (l.drop (j + 1)) else (((k + j : Nat) : Int), chk (k + j) l[j]) := by
  induction j generalizing k l with
  | zero => cases l with
    | nil => simp at hj
    | cons x l => simp [firstBadFrom]
  | succ j ih => cases l with
    | nil => simp at hj
    | cons x l =>
      have hx := h0 0 (by omega)
      simp at hx
      simp only [firstBadFrom, hx, if_true]
      have := ih l (k + 1) (by simpa using hj) (fun i hi => by have := h0 (i + 1) (by omega); simpa [Nat.add_assoc, Nat.add_comm, Nat.add_left_comm] using this)
      rw [this]
      simp [Nat.add_comm, Nat.add_left_comm]

theorem firstBadFrom_none {α : Type} (chk : Nat → α → Int) (l : List α) (k : Nat) (h0 : ∀ i (hi : i < l.length), chk (k + i) l[i] = 0) : firstBadFrom chk k l = (0, 0) := by
  induction l generalizing k with
  | nil => rfl
  | cons x l ih =>
    have hx := h0 0 (by simp)
    simp at hx
    simp only [firstBadFrom, hx, if_true]
    exact ih (k + 1) fun i hi => by have := h0 (i + 1) (by simpa using hi); simpa [Nat.add_assoc, Nat.add_comm, Nat.add_left_comm] using this

theorem firstBadFrom_some {α : Type} (chk : Nat → α → Int) (l : List α) (k j : Nat) (hj : j < l.length) (h0 : ∀ i (hi : i < j), chk (k + i) (l[i]'(by omega)) = 0) (h1 : chk (k + j) l[j] ≠ 0) :
    firstBadFrom chk k l = (((k + j : Nat) : Int), chk (k + j) l[j]) := by
  rw [firstBadFrom_split chk l k j hj h0, if_neg h1]

/-- An error, or none. -/
def errIf (b : Bool) (e : Int) : Int := if b then e else 0
theorem errIf_true (e : Int) : errIf true e = e := rfl
theorem errIf_false (e : Int) : errIf false e = 0 := rfl

/-- The error of a length that must not be 0. -/
def lenE (n most : Int) : Int := firstE [errIf (n == 0) 10, errIf (decide (most < n)) 8]
theorem lenE_eq (n most : Int) : lenE n most = if n = 0 then 10 else if most < n then 8 else 0 := by
  unfold lenE firstE errIf
  by_cases h : n = 0
  · simp [h]
  · by_cases h' : most < n <;> simp [h, h', firstE]

def codeItem (n : Int) : Int := if n = 1 ∨ n = -1 then 0 else 2
/-- The error of a code. -/
def codeE (l : List Int) : Int := if lenE l.length 32 = 0 then (firstBadFrom (fun _ n => codeItem n) 0 l).2 else lenE l.length 32

/-- The error of a chirp. -/
def chirpE (s n d : Int) : Int := if s < 0 ∨ 100000 < s ∨ n < 0 ∨ 1000 < n ∨ d < 1 ∨ 1000 < d then 2 else 0
def freq (s n d t : Int) : Int := s + t * n / d
end Go.Proofs.YtmedjedmeggbpaaDoor

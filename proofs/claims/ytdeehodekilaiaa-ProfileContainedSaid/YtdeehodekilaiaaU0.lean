/- The trace of a profile by some frequencies, as plain data. No condition. -/
import Derived.Test.YtdeehodekilaiaaF9
import Derived.Test.YtdeehodekilaiaaF7
set_option linter.unusedSimpArgs false
set_option linter.unusedVariables false
namespace Go.Proofs.Ytdeehodekilaiaa
open Go.RowKit

theorem ps_replicate (n : Nat) : ps (List.replicate n P0) = List.replicate (n * 3) (.int .i64 0) := by
  induction n with
  | zero => rfl
  | succ n ih => rw [List.replicate_succ, ps_cons, ih, show (n + 1) * 3 = n * 3 + 1 + 1 + 1 from by omega, List.replicate_succ, List.replicate_succ, List.replicate_succ]; rfl
theorem madeCells_p (n : Nat) : (madeCells (Value.agg #[.int .i64 0, .int .i64 0, .int .i64 0]).cells (n * 3)).toList = ps (List.replicate n P0) := by
  rw [show (Value.agg #[.int .i64 0, .int .i64 0, .int .i64 0]).cells = #[.int .i64 0, .int .i64 0, .int .i64 0] from rfl, ps_replicate]
  simp [madeCells]
  refine List.ext_getElem (by simp) fun i h1 h2 => ?_
  have hm : i % 3 = 0 ∨ i % 3 = 1 ∨ i % 3 = 2 := by omega
  rcases hm with h | h | h <;> simp [h]
theorem ps_set {l : List PT} {k : Nat} (hk : k < l.length) (p : PT) : (((ps l).set (k * 3) (.int .i64 p.1)).set (k * 3 + 1) (.int .i64 p.2.1)).set (k * 3 + 2) (.int .i64 p.2.2) = ps (l.set k p) := by
  induction l generalizing k with
  | nil => simp at hk
  | cons a l ih =>
    cases k with
    | zero => rfl
    | succ k =>
      rw [ps_cons, List.set_cons_succ, ps_cons, ← ih (by simpa using hk), show (k + 1) * 3 = k * 3 + 1 + 1 + 1 from by omega, show k * 3 + 1 + 1 + 1 + 1 = (k * 3 + 1) + 1 + 1 + 1 from by omega, show k * 3 + 1 + 1 + 1 + 2 = (k * 3 + 2) + 1 + 1 + 1 from by omega]
      rfl
theorem Blk.setP {w : World} {b : Nat} {t : TypeId} {l : List PT} (h : Blk w b t (ps l)) {k : Nat} {p : PT} (hk : k < l.length) :
    Blk (((w.setCell ⟨b, k * 3, none⟩ (.int .i64 p.1)).setCell ⟨b, k * 3 + 1, none⟩ (.int .i64 p.2.1)).setCell ⟨b, k * 3 + 2, none⟩ (.int .i64 p.2.2)) b t (ps (l.set k p)) := by
  rw [← ps_set hk]
  exact ((h.set_ _ _).set_ _ _).set_ _ _

/-- The error of a frequency, and its point. -/
def trfE (base : Int) (l : List G) (fs : List Int) (k : Nat) (f : Int) : Int :=
  firstE [freqE f, errIf (decide (0 < k) && decide (f ≤ fs.getD (k - 1) 0)) 9, (virtR base l f).2, errIf (decide (20000 < (virtR base l f).1.2)) 22]
def trfP (base : Int) (l : List G) (f : Int) : PT := (f, (virtR base l f).1.1, (virtR base l f).1.2)
/-- The first k points, and the others as they were made. -/
def mixL (base : Int) (l : List G) (fs : List Int) (k : Nat) : List PT := (List.range fs.length).map fun j => if j < k then trfP base l (fs.getD j 0) else P0
@[simp] theorem mixL_length (base : Int) (l : List G) (fs : List Int) (k : Nat) : (mixL base l fs k).length = fs.length := by simp [mixL]
theorem mixL_zero (base : Int) (l : List G) (fs : List Int) : mixL base l fs 0 = List.replicate fs.length P0 := by
  unfold mixL
  refine List.ext_getElem (by simp) fun i h1 h2 => ?_
  simp
theorem mixL_at (base : Int) (l : List G) (fs : List Int) (k i : Nat) (h : i < (mixL base l fs k).length) : (mixL base l fs k)[i] = if i < k then trfP base l (fs.getD i 0) else P0 := by simp [mixL]
theorem mixL_set (base : Int) (l : List G) (fs : List Int) (k : Nat) (f : Int) (hk : fs.getD k 0 = f) : (mixL base l fs k).set k (trfP base l f) = mixL base l fs (k + 1) := by
  refine List.ext_getElem (by simp) fun i h1 h2 => ?_
  rw [List.getElem_set, mixL_at]
  by_cases h : k = i
  · subst h
    rw [if_pos rfl, mixL_at, if_pos (by omega), hk]
  · rw [if_neg h, mixL_at]
    by_cases h3 : i < k
    · rw [if_pos h3, if_pos (by omega)]
    · rw [if_neg h3, if_neg (by omega)]
theorem mixL_all (base : Int) (l : List G) (fs : List Int) : mixL base l fs fs.length = fs.map (trfP base l) := by
  refine List.ext_getElem (by simp) fun i h1 h2 => ?_
  have : i < fs.length := by simpa using h1
  rw [mixL_at, if_pos this, getD_at this, List.getElem_map]

def trfHead (e : Int) (n : Int) : Int := firstE [e, errIf (n == 0) 10, errIf (decide (8 < n)) 8]
/-- What TraceOf answers: the points, the index and the error. -/
def trfR (base : Int) (l : List G) (fs : List Int) : List PT × Int × Int :=
  if trfHead (proE base l).2 fs.length = 0 then
    if (firstBadFrom (trfE base l fs) 0 fs).2 = 0 then (fs.map (trfP base l), 0, 0) else ([], (firstBadFrom (trfE base l fs) 0 fs).1, (firstBadFrom (trfE base l fs) 0 fs).2)
  else ([], 0, trfHead (proE base l).2 fs.length)

theorem trfE_freq {base : Int} {l : List G} {fs : List Int} {k : Nat} {f : Int} (h : freqE f ≠ 0) : trfE base l fs k f = freqE f := by
  unfold trfE; simp [firstE, h]
theorem trfE_prev {base : Int} {l : List G} {fs : List Int} {k : Nat} {f : Int} (h : freqE f = 0) (hk : 0 < k) (h2 : f ≤ fs.getD (k - 1) 0) : trfE base l fs k f = 9 := by
  have e : (decide (0 < k) && decide (f ≤ fs.getD (k - 1) 0)) = true := by rw [decide_eq_true hk, decide_eq_true h2]; rfl
  unfold trfE; rw [e]; simp [firstE, h, errIf]
theorem trfE_rest {base : Int} {l : List G} {fs : List Int} {k : Nat} {f : Int} (h : freqE f = 0) (h2 : k = 0 ∨ ¬ f ≤ fs.getD (k - 1) 0) : trfE base l fs k f = firstE [(virtR base l f).2, errIf (decide (20000 < (virtR base l f).1.2)) 22] := by
  have e : (decide (0 < k) && decide (f ≤ fs.getD (k - 1) 0)) = false := by
    rcases h2 with h2 | h2
    · rw [decide_eq_false (by omega)]; rfl
    · rw [decide_eq_false h2, Bool.and_false]
  unfold trfE; rw [e]; simp [firstE, h, errIf]
theorem virtR_open {base : Int} {l : List G} {f : Int} (hP : Pro base l) (h : freqE f = 0) (hn : passN l f = l.length) : virtR base l f = ((0, 0), 21) := by
  unfold virtR; rw [hP.err, h, if_pos (by rfl), if_pos hn]
theorem virtR_ok {base : Int} {l : List G} {f : Int} (hP : Pro base l) (h : freqE f = 0) (hn : passN l f ≠ l.length) : virtR base l f = (virt base l f, 0) := by
  unfold virtR; rw [hP.err, h, if_pos (by rfl), if_neg hn]

theorem trfHead_none {n : Nat} (h : n = 0) : trfHead 0 n = 10 := by subst h; rfl
theorem trfHead_many {n : Nat} (h : 8 < n) : trfHead 0 n = 8 := by
  have h1 : ((n : Int) == 0) = false := by simp; omega
  have h2 : decide (8 < (n : Int)) = true := by simp; omega
  unfold trfHead; rw [h1, h2]; rfl
theorem trfHead_ok {n : Nat} (h0 : n ≠ 0) (h : n ≤ 8) : trfHead 0 n = 0 := by
  have h1 : ((n : Int) == 0) = false := by simp; omega
  have h2 : decide (8 < (n : Int)) = false := by simp; omega
  unfold trfHead; rw [h1, h2]; rfl
theorem trfR_head {base : Int} {l : List G} {fs : List Int} {e : Int} (h : trfHead (proE base l).2 fs.length = e) (he : e ≠ 0) : trfR base l fs = ([], 0, e) := by
  unfold trfR; rw [if_neg (by rw [h]; exact he), h]
theorem trfR_at {base : Int} {l : List G} {fs : List Int} (hh : trfHead (proE base l).2 fs.length = 0) {k : Nat} (hk : k < fs.length) (h0 : ∀ j (h : j < fs.length), j < k → trfE base l fs j fs[j] = 0) {e : Int} (he : trfE base l fs k fs[k] = e) (hn : e ≠ 0) : trfR base l fs = ([], (k : Int), e) := by
  have := firstBadFrom_some (trfE base l fs) fs 0 k hk (fun i hi => by simpa using h0 i (by omega) hi) (by rw [Nat.zero_add, he]; exact hn)
  rw [Nat.zero_add, he] at this
  unfold trfR; rw [if_pos hh, this, if_neg hn]
theorem trfR_all {base : Int} {l : List G} {fs : List Int} (hh : trfHead (proE base l).2 fs.length = 0) (h0 : ∀ j (h : j < fs.length), trfE base l fs j fs[j] = 0) : trfR base l fs = (fs.map (trfP base l), 0, 0) := by
  have := firstBadFrom_none (trfE base l fs) fs 0 fun i hi => by simpa using h0 i hi
  unfold trfR; rw [if_pos hh, this, if_pos rfl]
end Go.Proofs.Ytdeehodekilaiaa

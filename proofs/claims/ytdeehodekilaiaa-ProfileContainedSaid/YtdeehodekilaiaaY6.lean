/- Law: fits. The words and the steps that its ways have in common. -/
import Derived.Test.YtdeehodekilaiaaF16
import Derived.Test.YtdeehodekilaiaaY2
import Derived.Test.YtdeehodekilaiaaY4
import Derived.Test.YtdeehodekilaiaaY5
set_option linter.unusedSimpArgs false
set_option linter.unusedVariables false
namespace Go.Proofs.Ytdeehodekilaiaa
open Go.RowKit
set_option maxRecDepth 100000

theorem traceErr_c (A : Option Addr) (c : Nat) (after width : Int) (l : List PT) (w : World) (hr : Rd w A (ps l)) (hl : l.length ≤ 1000) :
    Calls Try.prog 18 #[.agg #[.slice A l.length c, .int .i64 after, .int .i64 width]] w fun r w' => r = .returned (.int .i64 (trE l after width).2) ∧ Below w.heap.size w w' := by
  have HC := hide (fun W h => refCheckTrace_c A c after width l W h hl)
  generalize (trE l after width).1 = i at HC
  generalize (trE l after width).2 = e at HC ⊢
  go_enter Try.func18, Try.ntmps18
  go_wp2_with (first | (go_at_call 46; refine (HC.out _ (hr.alloc _)).mono ?_; rintro e_ w1 ⟨rfl, hb1⟩))
  go_ret
  exact ⟨rfl, bel_tr (alloc_bel _ _) (by simp) hb1⟩

/-- How AgreesWith answers, of any profile and any trace. -/
def agE (base : Int) (l : List G) (pts : List PT) (after width : Int) : Int := firstE [(proE base l).2, (trE pts after width).2]
def agL (base : Int) (l : List G) (pts : List PT) (after width : Int) : List Int := if agE base l pts after width = 0 then pts.map (agr base l) else []
theorem agreesWith_c (base after width : Int) (A B : Option Addr) (c d : Nat) (l : List G) (pts : List PT) (w : World) (hr : Rd w A (gs l)) (hs : Rd w B (ps pts)) (hl : l.length ≤ 1000) (hpl : pts.length ≤ 1000) :
    Calls Try.prog 24 #[.agg #[.int .i64 base, .slice A l.length c], .agg #[.slice B pts.length d, .int .i64 after, .int .i64 width]] w fun r w' => (∃ A' c', r = .returned (.tuple #[.slice A' (agL base l pts after width).length c', .int .i64 (agE base l pts after width)]) ∧ Rd w' A' (ints (agL base l pts after width))) ∧ Below w.heap.size w w' := by
  by_cases he : agE base l pts after width = 0
  · have h := firstE_cons_zero.1 he
    have hL : agL base l pts after width = pts.map (agr base l) := by unfold agL; rw [if_pos he]
    rw [he, hL, List.length_map]
    exact agreesWith_ok base after width A B c d l pts w hr hs (proE_zero h.1) (trE_zero (firstE_cons_zero.1 h.2).1)
  · have hL : agL base l pts after width = [] := by unfold agL; rw [if_neg he]
    rw [hL]
    exact (agreesWith_bad base after width A B c d l pts w hr hs hl hpl he).mono fun r w' ⟨h, hb⟩ => ⟨⟨none, 0, h, Rd.nil _ _⟩, hb⟩


/-- What the boxes hold, wherever the law's walk stands: the profile, the trace, the fit. -/
structure FitI (base after width : Int) (A B : Option Addr) (c d : Nat) (l : List G) (pts : List PT) (bx : Int) (Lx : List G) (w : World) (p q : Nat) (Ax : Option Addr) (cx : Nat) (W : World) : Prop where
  x : Blk W p 24 [.int .i64 base, .slice A l.length c]
  y : Blk W (p + 1) 30 [.slice B pts.length d, .int .i64 after, .int .i64 width]
  q : Blk W q 24 [.int .i64 bx, .slice Ax Lx.length cx]
  r : Rd W A (gs l)
  s : Rd W B (ps pts)
  f : Rd W Ax (gs Lx)
  b : Below p w W
theorem FitI.next {base after width : Int} {A B : Option Addr} {c d : Nat} {l : List G} {pts : List PT} {bx : Int} {Lx : List G} {w : World} {p q : Nat} {Ax : Option Addr} {cx : Nat} {W W' : World} (h : FitI base after width A B c d l pts bx Lx w p q Ax cx W) (hb : Below W.heap.size W W') : FitI base after width A B c d l pts bx Lx w p q Ax cx W' :=
  ⟨h.x.bel hb, h.y.bel hb, h.q.bel hb, h.r.bel hb, h.s.bel hb, h.f.bel hb, h.b.trans (hb.mono (by have := h.x.lt; omega))⟩
end Go.Proofs.Ytdeehodekilaiaa

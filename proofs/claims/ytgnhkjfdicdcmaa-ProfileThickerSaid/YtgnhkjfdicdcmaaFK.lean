/- Thicker is higher, as the law changes a profile. No condition. -/
import Derived.Test.YtgnhkjfdicdcmaaQB
namespace Go.Proofs.Ytgnhkjfdicdcmaa

/-- The slab that the law turns. -/
def turned (l : List G) (f : Int) (i : Nat) (th sq : Int) : G := if i < passN l f then (min ((l.getD i G0).1 + sq) (f * f - 1), (l.getD i G0).2 + th) else ((l.getD i G0).1, (l.getD i G0).2 + th)
theorem turned_ok {l : List G} {f : Int} {i : Nat} {th sq : Int} (hi : i < l.length) (h0 : 0 ≤ th) (h1 : 0 ≤ sq) :
    (if i < passN l f then (turned l f i th sq).1 < f * f else (turned l f i th sq).1 = l[i].1) ∧ l[i].1 ≤ (turned l f i th sq).1 ∧ l[i].2 ≤ (turned l f i th sq).2 := by
  unfold turned
  rw [getD_at hi]
  split
  · rename_i h
    have hp := passN_lt h hi
    generalize f * f = F at *
    refine ⟨?_, ?_, ?_⟩ <;> omega
  · rename_i h
    refine ⟨rfl, ?_, ?_⟩ <;> omega
theorem thicker_pass {l : List G} {f : Int} {i : Nat} {th sq : Int} (hi : i < l.length) (h0 : 0 ≤ th) (h1 : 0 ≤ sq) : passN (l.set i (turned l f i th sq)) f = passN l f :=
  passN_set hi (turned_ok hi h0 h1).1
theorem thicker_virt {base bs : Int} {l : List G} (hs : Slabs base l) {f : Int} (hf : 1 ≤ f) (hb : 0 ≤ bs) {i : Nat} {th sq : Int} (hi : i < l.length) (h0 : 0 ≤ th) (h1 : 0 ≤ sq) :
    (virt base l f).1 ≤ (virt (base + bs) (l.set i (turned l f i th sq)) f).1 ∧ (virt base l f).2 ≤ (virt (base + bs) (l.set i (turned l f i th sq)) f).2 := by
  obtain ⟨a, b, c⟩ := turned_ok (f := f) (th := th) (sq := sq) hi h0 h1
  exact dly_set hs hf (by omega) hi a b c
theorem higher {base : Int} {l : List G} (hs : Slabs base l) {f : Int} (hf : 0 ≤ f) : hgt base l (passN l f) ≤ hgt base l (passN l (f + 1)) :=
  hgt_mono (fun g hg => (hs.all g hg).2.2.1) (passN_mono hf (by omega))
end Go.Proofs.Ytgnhkjfdicdcmaa

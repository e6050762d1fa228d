import Derived.Test.YtajphdppmdoalaaT1
namespace Go.Proofs.Ytajphdppmdoalaa
open Go.RowKit

theorem own_tag {w : World} {base g k : Nat} {e : TypeId} {u : Value} {ys : List Value} (h : w.ownsRow base e 1 u k ys) (hg : u.ownBlock = some g) : ∃ cur, w.heap[g]? = some (.cells cur e (0, 0)) ∧ base ≤ g := by
  rcases h.2 with ⟨rfl, _⟩ | ⟨g', cap, cur, rfl, hb, hh, _⟩
  · simp [Value.ownBlock] at hg
  · simp only [Value.ownBlock, Option.some.injEq] at hg
    subst hg
    exact ⟨cur, hh, hb⟩
theorem own_apart {w : World} {base base' k n : Nat} {e e' : TypeId} {u v : Value} {ys xs : List Value} (h : w.ownsRow base e 1 u k ys) (h' : w.ownsRow base' e' 1 v n xs) (hne : e ≠ e') : u.ownBlock = none ∨ u.ownBlock ≠ v.ownBlock := by
  cases hu : u.ownBlock with
  | none => exact .inl rfl
  | some g =>
    refine .inr ?_
    intro hv
    obtain ⟨c1, h1, _⟩ := own_tag h hu
    obtain ⟨c2, h2, _⟩ := own_tag h' hv.symm
    rw [h1] at h2
    simp at h2
    exact hne h2.2
theorem own_stay {w w' : World} {base base' k n : Nat} {e e' : TypeId} {u v : Value} {ys xs : List Value} (h : w.ownsRow base e 1 u k ys) (h' : w.ownsRow base' e' 1 v n xs) (hne : e ≠ e') (hg : w.grownBy w' v.ownBlock) : w'.ownsRow base e 1 u k ys :=
  h.kept hg (own_apart h h' hne)
theorem own_set {w : World} {base k wb j : Nat} {e t : TypeId} {u : Value} {ys : List Value} {cs : Array Value} (h : w.ownsRow base e 1 u k ys) (hw : w.heap[wb]? = some (.cells cs t (0, 0))) (hne : e ≠ t) (x : Value) : (w.setCell ⟨wb, j, none⟩ x).ownsRow base e 1 u k ys := by
  refine ownsRow_setCell_other h ?_ x
  intro hu
  obtain ⟨c1, h1, _⟩ := own_tag h hu
  rw [h1] at hw
  simp at hw
  exact hne hw.2
theorem own_below {w w' : World} {B base k : Nat} {e : TypeId} {u : Value} {ys : List Value} (h : w.ownsRow base e 1 u k ys) (hu : ∀ g, u.ownBlock = some g → g < B) (hb : Below B w w') : w'.ownsRow base e 1 u k ys := by
  refine ⟨h.1, ?_⟩
  rcases h.2 with h2 | ⟨g, cap, cur, hv, hbs, hh, r⟩
  · exact .inl h2
  · exact .inr ⟨g, cap, cur, hv, hbs, (hb.block g (hu g (by rw [hv]; rfl))).trans hh, r⟩
theorem own_lt {w : World} {base k : Nat} {e : TypeId} {u : Value} {ys : List Value} (h : w.ownsRow base e 1 u k ys) : ∀ g, u.ownBlock = some g → g < w.heap.size := fun g hg => (h.lt g hg).2
theorem blk_stay {w w' : World} {wb base n : Nat} {e t : TypeId} {v : Value} {xs : List Value} {cs : Array Value} (hw : w.heap[wb]? = some (.cells cs t (0, 0))) (h' : w.ownsRow base e 1 v n xs) (hne : e ≠ t) (hg : w.grownBy w' v.ownBlock) : w'.heap[wb]? = some (.cells cs t (0, 0)) := by
  refine (hg.block wb (lt_of_block hw) ?_).trans hw
  intro hv
  obtain ⟨c1, h1, _⟩ := own_tag h' hv.symm
  rw [h1] at hw
  simp at hw
  exact hne hw.2

/-- One list of the book: its bytes are what the caller wrote. -/
def Page (w : World) (lo hi : Nat) (u : Value) (k : Int) : Prop := ∃ m, w.ownsRow lo 5 1 u m ((sg k m).map (Value.int .u8)) ∧ ∀ g, u.ownBlock = some g → g < hi
theorem Page.below {w w' : World} {lo hi : Nat} {u : Value} {k : Int} (h : Page w lo hi u k) (hb : Below hi w w') : Page w' lo hi u k := by
  obtain ⟨m, h1, h2⟩ := h
  exact ⟨m, own_below h1 h2 hb, h2⟩
theorem Page.mono {w : World} {lo hi hi' : Nat} {u : Value} {k : Int} (h : Page w lo hi u k) (hh : hi ≤ hi') : Page w lo hi' u k := by
  obtain ⟨m, h1, h2⟩ := h
  exact ⟨m, h1, fun g hg => Nat.lt_of_lt_of_le (h2 g hg) hh⟩
end Go.Proofs.Ytajphdppmdoalaa

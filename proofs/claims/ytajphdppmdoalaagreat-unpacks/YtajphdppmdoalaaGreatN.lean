import Derived.Test.YtajphdppmdoalaaGreatM
namespace Go.Proofs.YtajphdppmdoalaaGreat
open Go.RowKit
set_option linter.unusedVariables false

theorem has_drop {w : World} {g o : Nat} {zs : List Int} (k : Nat) (h : Has w (some ⟨g, o, none⟩) zs) : Has w (some ⟨g, o + k, none⟩) (zs.drop k) := by
  refine ⟨by simp, fun hz => ?_⟩
  obtain ⟨b, o', he, hlt, hc⟩ := h.2 (by intro e; subst e; simp at hz)
  simp only [Option.some.injEq, Addr.mk.injEq] at he
  obtain ⟨rfl, rfl, _⟩ := he
  refine ⟨g, o + k, rfl, hlt, fun j hj => ?_⟩
  have h1 := hc (k + j) (by simp at hj; omega)
  rw [show o + k + j = o + (k + j) by omega, h1, List.getD_eq_getElem?_getD, List.getD_eq_getElem?_getD, List.getElem?_drop]

end Go.Proofs.YtajphdppmdoalaaGreat

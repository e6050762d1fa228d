import Derived.Test.YtajphdppmdoalaaGreatK
import Derived.Laws.BytesArg
namespace Go.Proofs.YtajphdppmdoalaaGreat
open Go.RowKit

/-- 'string(b)'. -/
theorem conv_has {w : World} {ao : Option Addr} {zs : List Int} (h : Has w ao zs) (cap : Nat) : (convert 38 9 (.slice ao zs.length cap)).run Tryz.prog w = .ok (.string (strOfNums zs)) w := by
  cases ao with
  | none =>
    obtain rfl := h.1 rfl
    exact run_convert_bytes_nil (P := Tryz.prog) w 38 5 Tryz.underlying38 Tryz.underlying5 _ _ 9 Tryz.underlying9
  | some a =>
    by_cases hz : zs = []
    · subst hz
      rw [run_convert_bytes_string w 38 9 5 _ _ _ Tryz.underlying38 Tryz.underlying5 Tryz.underlying9]
      exact run_bytesToString w a 0 cap [] (by simpa using run_loadCells_list (P := Tryz.prog) w a [] (by simp))
    · obtain ⟨b, o, he, _, hc⟩ := h.2 hz
      obtain rfl : a = ⟨b, o, none⟩ := by simpa using he
      exact run_convert_bytes_arg (P := Tryz.prog) w 38 5 Tryz.underlying38 Tryz.underlying5 b o _ cap zs rfl hc 9 Tryz.underlying9

end Go.Proofs.YtajphdppmdoalaaGreat

import Derived.Test.YtajphdppmdoalaaZNKtoC
import Derived.Test.YtajphdppmdoalaaZBtoD
import Derived.Laws.CopyOwn
namespace Go.Proofs.Ytajphdppmdoalaa
open Go.RowKit

set_option maxRecDepth 100000 in
set_option maxHeartbeats 400000 in
theorem unpack_short (ao : Option Addr) (n cap : Nat) (w : World) (hn : n < 12) :
    Calls Try.prog 28 #[.slice ao n cap] w fun e w' => e = .returned (.tuple #[.agg #[.int .u16 0, .int .u16 0, .int .u8 0, .int .u16 0, .int .u8 0, .bool false, .int .u16 0, .int .u16 0, .slice none 0 0], .int .i64 2]) ∧ Below w.heap.size w w' := by
  go_enter Try.func28, Try.ntmps28
  go_wp2
  refine bodyPost_ret (v := .tuple #[.agg #[.int .u16 0, .int .u16 0, .int .u8 0, .int .u16 0, .int .u8 0, .bool false, .int .u16 0, .int .u16 0, .slice none 0 0], .int .i64 2]) ?_ rfl ⟨rfl, ?_⟩
  all_goals go_light
  · simp [results, Try.results28, go_sem]
  · repeat' first | with_reducible exact Below.refl _ _ | with_reducible refine Below.setCell ?_ ?_ _ | with_reducible refine below_drewN ?_ _ | with_reducible refine Below.alloc ?_ ?_ _
    all_goals (simp; try omega)

theorem box_frozen {w w' : World} {cs : Array Value} {t : TypeId} (hb : Below (w.heap.size + 1) (w.alloc (.cells cs t)) w') (j : Nat) : w'.frozen? ⟨w.heap.size, j, none⟩ = false := by
  rw [hb.frozen (p := ⟨w.heap.size, j, none⟩) (by simp)]
  exact World.frozen?_alloc_at cs t _ j rfl

theorem row_cell {w : World} {g : Nat} {cs : List Value} {t : TypeId} (h : w.heap[g]? = some (.cells cs.toArray t (0, 0))) (j : Nat) : w.cell? ⟨g, j, none⟩ = cs[j]? := by
  simp [World.cell?, h]
theorem row_frozen {w : World} {g : Nat} {cs : List Value} {t : TypeId} (h : w.heap[g]? = some (.cells cs.toArray t (0, 0))) (j : Nat) : w.frozen? ⟨g, j, none⟩ = false := by
  simp [World.frozen?, h]

theorem alloc_setRow (w : World) (old new : Array Value) (t : TypeId) : (w.alloc (.cells old t)).setRow w.heap.size new = w.alloc (.cells new t) := by
  have h : (w.heap.push (.cells old t)).modify w.heap.size (fun | .cells _ elem frozen => .cells new elem frozen | o => o) = w.heap.push (.cells new t) := by
    apply Array.ext_getElem?
    intro i
    rw [Array.getElem?_modify, Array.getElem?_push, Array.getElem?_push]
    by_cases hi : i = w.heap.size
    · subst hi; simp
    · simp [hi, Ne.symm hi]
  exact congrArg (fun h => ({ w with heap := h } : World)) h

/-- 'copy(h[:], b)' where h is new: h holds the first twelve bytes. -/
theorem copy_head (b o n cap : Nat) (h0 h1 h2 h3 h4 h5 h6 h7 h8 h9 h10 h11 : Int) (r : List Int) (w : World) (hn : 12 + r.length = n) (hd : Has w (some ⟨b, o, none⟩) ([h0, h1, h2, h3, h4, h5, h6, h7, h8, h9, h10, h11] ++ r)) :
    Sem.run Try.prog (Builtin.copy_ #[26, 26] 3 #[.slice (some ⟨w.heap.size + 1, 0, none⟩) 12 12, .slice (some ⟨b, o, none⟩) n cap]) ((w.alloc (.cells #[.int .u16 0, .int .u16 0, .int .u8 0, .int .u16 0, .int .u8 0, .bool false, .int .u16 0, .int .u16 0, .slice none 0 0] 28)).alloc (.cells #[.int .u8 0, .int .u8 0, .int .u8 0, .int .u8 0, .int .u8 0, .int .u8 0, .int .u8 0, .int .u8 0, .int .u8 0, .int .u8 0, .int .u8 0, .int .u8 0] 97))
      = .ok (goInt 12) ((w.alloc (.cells #[.int .u16 0, .int .u16 0, .int .u8 0, .int .u16 0, .int .u8 0, .bool false, .int .u16 0, .int .u16 0, .slice none 0 0] 28)).alloc (.cells #[.int .u8 h0, .int .u8 h1, .int .u8 h2, .int .u8 h3, .int .u8 h4, .int .u8 h5, .int .u8 h6, .int .u8 h7, .int .u8 h8, .int .u8 h9, .int .u8 h10, .int .u8 h11] 97)) := by
  have := run_copy_row (P := Try.prog) ((w.alloc (.cells #[.int .u16 0, .int .u16 0, .int .u8 0, .int .u16 0, .int .u8 0, .bool false, .int .u16 0, .int .u16 0, .slice none 0 0] 28)).alloc (.cells #[.int .u8 0, .int .u8 0, .int .u8 0, .int .u8 0, .int .u8 0, .int .u8 0, .int .u8 0, .int .u8 0, .int .u8 0, .int .u8 0, .int .u8 0, .int .u8 0] 97)) 26 26 3 5 (w.heap.size + 1) 0 12 12 ⟨b, o, none⟩ n cap #[.int .u8 0, .int .u8 0, .int .u8 0, .int .u8 0, .int .u8 0, .int .u8 0, .int .u8 0, .int .u8 0, .int .u8 0, .int .u8 0, .int .u8 0, .int .u8 0] 97 [Value.int .u8 h0, Value.int .u8 h1, Value.int .u8 h2, Value.int .u8 h3, Value.int .u8 h4, Value.int .u8 h5, Value.int .u8 h6, Value.int .u8 h7, Value.int .u8 h8, Value.int .u8 h9, Value.int .u8 h10, Value.int .u8 h11] Try.underlying26 (by kernel_rfl) (by simpa using heap_alloc_new (w.alloc _) _) (by simp [Nat.min_def]; omega) ?_ (by simp) (by simp [Value.oneCell'])
  · rw [this]
    have h := alloc_setRow (w.alloc (.cells #[.int .u16 0, .int .u16 0, .int .u8 0, .int .u16 0, .int .u8 0, .bool false, .int .u16 0, .int .u16 0, .slice none 0 0] 28))
    simp only [World.size_alloc] at h
    rw [h]
    rfl
  · intro j v hj
    have hjl : j < 12 := by
      by_cases hj' : j < 12
      · exact hj'
      · rw [List.getElem?_eq_none (by simp; omega)] at hj; exact absurd hj (by simp)
    have h := Has.cells hd j v (by rw [List.map_append, List.getElem?_append_left (by simpa using hjl)]; exact hj)
    exact cell_later (((Below.refl _ _).alloc (Nat.le_refl _) _).alloc (by simp) _) h

end Go.Proofs.Ytajphdppmdoalaa

import Derived.Test.YtajphdppmdoalaaI
namespace Go.Proofs.Ytajphdppmdoalaa
open Go.RowKit

/-- The bytes that a packet is filled with. -/
def fl (fill : Int) : Nat → List Int
  | 0 => []
  | k + 1 => fl fill k ++ [(fill + k) % 256]
theorem fl_length (fill : Int) (k : Nat) : (fl fill k).length = k := by
  induction k with
  | zero => rfl
  | succ k ih => simp [fl, ih]
theorem fl_bd (fill : Int) (k : Nat) : ∀ z ∈ fl fill k, 0 ≤ z ∧ z ≤ 255 := by
  induction k with
  | zero => simp [fl]
  | succ k ih =>
    intro z hz
    simp only [fl, List.mem_append, List.mem_singleton] at hz
    rcases hz with hz | rfl
    · exact ih z hz
    · omega
theorem wrap_byte (x : Int) : wrap64 x % 256 = x % 256 := by unfold wrap64; omega
set_option maxRecDepth 100000 in
set_option maxHeartbeats 800000 in
theorem packet_0 (src dst id proto sport dport : Int) (n : Nat) (more : Bool) (fill : Int) (w : World) (hn : n ≤ 32) :
    Calls Try.prog 10 #[.agg #[.int .u16 src, .int .u16 dst, .int .u16 id, .int .u8 proto, .int .u16 sport, .int .u16 dport], .int .i64 0, .int .i64 n, .bool more, .int .i64 fill] w fun e w' => ∃ v, e = .returned (.agg #[.int .u16 src, .int .u16 dst, .int .u8 proto, .int .u16 id, .int .u8 0, .bool more, .int .u16 sport, .int .u16 dport, v]) ∧ w'.ownsRow w.heap.size 5 1 v n ((fl fill n).map (Value.int .u8)) ∧ Below w.heap.size w w' := by
  obtain ⟨i5, hi, hz5, hz6, hz7⟩ := info_parts Try.info5
  go_enter Try.func10, Try.ntmps10
  go_wp2_with fail
  go_loopw [12] (fun i wr => ∃ (k : Nat) (v : Value), k ≤ n ∧ i = .int .i64 k ∧ Hid (wr.ownsRow (w.heap.size + 3) 5 1 v k ((fl fill k).map (Value.int .u8))) ∧ Hid (wr.heap[w.heap.size + 1 + 1]? = some (.cells #[.int .u16 src, .int .u16 dst, .int .u8 proto, .int .u16 id, .int .u8 0, .bool more, .int .u16 sport, .int .u16 dport, v] 28 (0, 0))) ∧ Hid (Below (w.heap.size + 2) ((w.alloc (.cells #[.int .u16 src, .int .u16 dst, .int .u16 id, .int .u8 proto, .int .u16 sport, .int .u16 dport] 24)).alloc (.cells #[.int .u16 0, .int .u16 0, .int .u8 0, .int .u16 0, .int .u8 0, .bool false, .int .u16 0, .int .u16 0, .slice none 0 0] 28)) wr))
    (fun i _ => n - (intOf i).toNat)
  case atStart => exact ⟨0, .slice none 0 0, Nat.zero_le _, rfl, World.ownsRow_nil _ _ _ _, by show _ = _; simpa using heap_alloc_new ((w.alloc (.cells #[.int .u16 src, .int .u16 dst, .int .u16 id, .int .u8 proto, .int .u16 sport, .int .u16 dport] 24)).alloc (.cells #[.int .u16 0, .int .u16 0, .int .u8 0, .int .u16 0, .int .u8 0, .bool false, .int .u16 0, .int .u16 0, .slice none 0 0] 28)) _, (Below.refl _ _).alloc (by simp) _⟩
  case round =>
    obtain ⟨k, v, hk, rfl, HO, HR, HB⟩ := hrel
    have cp := arr_cell HR.out
    have fp := arr_frozen HR.out
    have hsz : w.heap.size + 1 + 1 < wr.heap.size := lt_of_block HR.out
    have cr : ∀ j, wr.cell? ⟨w.heap.size + 1, j, none⟩ = #[.int .u16 0, .int .u16 0, .int .u8 0, .int .u16 0, .int .u8 0, .bool false, .int .u16 0, .int .u16 0, .slice none 0 0][j]? := fun j => (HB.out.cell (p := ⟨w.heap.size + 1, j, none⟩) (by simp)).trans (by simp)
    have fr : ∀ j, wr.frozen? ⟨w.heap.size + 1, j, none⟩ = false := fun j => (HB.out.frozen (p := ⟨w.heap.size + 1, j, none⟩) (by simp)).trans (by simp)
    by_cases hlt : k < n
    · clear cr fr
      go_wp2_with (at_builtin; refine wpList_append_own _ rfl (.tmp 39) (.tmp 44) 26 rfl (w.heap.size + 3) 5 i5 (.int .u8 0) 1 1 Try.underlying26 hi hz5 hz6 hz7 rfl (by decide) _ _ _ rfl (HO.out.alloc _) ⟨wr.heap.size, 0, none⟩ 1 1 [_] rfl rfl (cell_one_new _ _ _) (by simp [Value.oneCell']) (by unfold maxLen; omega) (by omega) (by simp; omega) ?_)
      intro v5 w5 hown hgrow hiff
      have hnn : v5 ≠ .slice none 0 0 := by intro h; first | exact hiff h | exact absurd (hiff.1 h).2 (by decide)
      have HO5 := hide hown
      obtain ⟨g, cv, rfl⟩ := (own_shape hown).resolve_left hnn
      have HR5 : Hid (w5.heap[w.heap.size + 1 + 1]? = some (.cells #[.int .u16 src, .int .u16 dst, .int .u8 proto, .int .u16 id, .int .u8 0, .bool more, .int .u16 sport, .int .u16 dport, v] 28 (0, 0))) := by
        refine Eq.trans (hgrow.block _ (by simp; omega) ?_) ((Below.heap_alloc _ _ _ (by omega)).trans HR.out)
        intro h
        have := (HO.out.lt _ h.symm).1
        omega
      have HB5 : Hid (Below (w.heap.size + 2) ((w.alloc (.cells #[.int .u16 src, .int .u16 dst, .int .u16 id, .int .u8 proto, .int .u16 sport, .int .u16 dport] 24)).alloc (.cells #[.int .u16 0, .int .u16 0, .int .u8 0, .int .u16 0, .int .u8 0, .bool false, .int .u16 0, .int .u16 0, .slice none 0 0] 28)) w5) := (HB.out.alloc (by omega) _).grown hgrow (by simp; omega) (fun q hq => by have := (HO.out.lt q hq).1; omega)
      clear cp fp
      have cp := arr_cell HR5.out
      have fp := arr_frozen HR5.out
      clear hown hiff hnn hgrow HR HB HO hsz
      go_wp2
      go_roundw
      case rel =>
        refine ⟨k + 1, _, by omega, by go_num, ?_, row_setCell HR5.out _, HB5.out.setCell (by simp) _⟩
        have h := ownsRow_setCell_below HO5.out (a := ⟨w.heap.size + 1 + 1, 8, none⟩) (by simp) (.slice (some ⟨g, 0, none⟩) (k + 1) cv)
        simpa [fl, wrap_byte, Hid] using h
      case measure => simp [intOf]; omega
    · obtain rfl : k = n := by omega
      have HW : Hid (Below w.heap.size w wr) := (((Below.refl _ _).alloc (Nat.le_refl _) _).alloc (by simp) _).trans (HB.out.mono (by omega))
      rcases own_shape HO.out with rfl | ⟨g, cv, rfl⟩
      · clear HR HB
        go_wp2
        refine bodyPost_ret (v := .agg #[.int .u16 src, .int .u16 dst, .int .u8 proto, .int .u16 id, .int .u8 0, .bool more, .int .u16 sport, .int .u16 dport, .slice none 0 0]) ?_ rfl ⟨_, rfl, ?_, ?_⟩
        all_goals go_light
        · simp [results, Try.results10, go_sem, cr]
        · refine ownsRow_base (base := w.heap.size + 3) ?_ (by omega)
          repeat' first | with_reducible exact HO.out | with_reducible refine ownsRow_setCell_below ?_ ?_ _
          all_goals simp
        · repeat' first | with_reducible exact HW.out | with_reducible refine Below.setCell ?_ ?_ _
          all_goals simp
      · clear HR HB
        go_wp2
        refine bodyPost_ret (v := .agg #[.int .u16 src, .int .u16 dst, .int .u8 proto, .int .u16 id, .int .u8 0, .bool more, .int .u16 sport, .int .u16 dport, .slice (some ⟨g, 0, none⟩) k cv]) ?_ rfl ⟨_, rfl, ?_, ?_⟩
        all_goals go_light
        · simp [results, Try.results10, go_sem, cr]
        · refine ownsRow_base (base := w.heap.size + 3) ?_ (by omega)
          repeat' first | with_reducible exact HO.out | with_reducible refine ownsRow_setCell_below ?_ ?_ _
          all_goals simp
        · repeat' first | with_reducible exact HW.out | with_reducible refine Below.setCell ?_ ?_ _
          all_goals simp

set_option maxRecDepth 100000 in
set_option maxHeartbeats 800000 in
theorem packet_1 (src dst id proto sport dport off : Int) (n : Nat) (more : Bool) (fill : Int) (w : World) (hoff0 : 0 ≤ off) (hoff : off ≤ 15) (h0 : (off == 0) = false) (hn : n ≤ 32) :
    Calls Try.prog 10 #[.agg #[.int .u16 src, .int .u16 dst, .int .u16 id, .int .u8 proto, .int .u16 sport, .int .u16 dport], .int .i64 off, .int .i64 n, .bool more, .int .i64 fill] w fun e w' => ∃ v, e = .returned (.agg #[.int .u16 src, .int .u16 dst, .int .u8 proto, .int .u16 id, .int .u8 off, .bool more, .int .u16 0, .int .u16 0, v]) ∧ w'.ownsRow w.heap.size 5 1 v n ((fl fill n).map (Value.int .u8)) ∧ Below w.heap.size w w' := by
  obtain ⟨i5, hi, hz5, hz6, hz7⟩ := info_parts Try.info5
  go_enter Try.func10, Try.ntmps10
  go_wp2_with fail
  go_loopw [12] (fun i wr => ∃ (k : Nat) (v : Value), k ≤ n ∧ i = .int .i64 k ∧ Hid (wr.ownsRow (w.heap.size + 3) 5 1 v k ((fl fill k).map (Value.int .u8))) ∧ Hid (wr.heap[w.heap.size + 1 + 1]? = some (.cells #[.int .u16 src, .int .u16 dst, .int .u8 proto, .int .u16 id, .int .u8 off, .bool more, .int .u16 0, .int .u16 0, v] 28 (0, 0))) ∧ Hid (Below (w.heap.size + 2) ((w.alloc (.cells #[.int .u16 src, .int .u16 dst, .int .u16 id, .int .u8 proto, .int .u16 sport, .int .u16 dport] 24)).alloc (.cells #[.int .u16 0, .int .u16 0, .int .u8 0, .int .u16 0, .int .u8 0, .bool false, .int .u16 0, .int .u16 0, .slice none 0 0] 28)) wr))
    (fun i _ => n - (intOf i).toNat)
  case atStart => exact ⟨0, .slice none 0 0, Nat.zero_le _, rfl, World.ownsRow_nil _ _ _ _, by show _ = _; simpa using heap_alloc_new ((w.alloc (.cells #[.int .u16 src, .int .u16 dst, .int .u16 id, .int .u8 proto, .int .u16 sport, .int .u16 dport] 24)).alloc (.cells #[.int .u16 0, .int .u16 0, .int .u8 0, .int .u16 0, .int .u8 0, .bool false, .int .u16 0, .int .u16 0, .slice none 0 0] 28)) _, (Below.refl _ _).alloc (by simp) _⟩
  case round =>
    obtain ⟨k, v, hk, rfl, HO, HR, HB⟩ := hrel
    have cp := arr_cell HR.out
    have fp := arr_frozen HR.out
    have hsz : w.heap.size + 1 + 1 < wr.heap.size := lt_of_block HR.out
    have cr : ∀ j, wr.cell? ⟨w.heap.size + 1, j, none⟩ = #[.int .u16 0, .int .u16 0, .int .u8 0, .int .u16 0, .int .u8 0, .bool false, .int .u16 0, .int .u16 0, .slice none 0 0][j]? := fun j => (HB.out.cell (p := ⟨w.heap.size + 1, j, none⟩) (by simp)).trans (by simp)
    have fr : ∀ j, wr.frozen? ⟨w.heap.size + 1, j, none⟩ = false := fun j => (HB.out.frozen (p := ⟨w.heap.size + 1, j, none⟩) (by simp)).trans (by simp)
    by_cases hlt : k < n
    · clear cr fr
      go_wp2_with (at_builtin; refine wpList_append_own _ rfl (.tmp 39) (.tmp 44) 26 rfl (w.heap.size + 3) 5 i5 (.int .u8 0) 1 1 Try.underlying26 hi hz5 hz6 hz7 rfl (by decide) _ _ _ rfl (HO.out.alloc _) ⟨wr.heap.size, 0, none⟩ 1 1 [_] rfl rfl (cell_one_new _ _ _) (by simp [Value.oneCell']) (by unfold maxLen; omega) (by omega) (by simp; omega) ?_)
      intro v5 w5 hown hgrow hiff
      have hnn : v5 ≠ .slice none 0 0 := by intro h; first | exact hiff h | exact absurd (hiff.1 h).2 (by decide)
      have HO5 := hide hown
      obtain ⟨g, cv, rfl⟩ := (own_shape hown).resolve_left hnn
      have HR5 : Hid (w5.heap[w.heap.size + 1 + 1]? = some (.cells #[.int .u16 src, .int .u16 dst, .int .u8 proto, .int .u16 id, .int .u8 off, .bool more, .int .u16 0, .int .u16 0, v] 28 (0, 0))) := by
        refine Eq.trans (hgrow.block _ (by simp; omega) ?_) ((Below.heap_alloc _ _ _ (by omega)).trans HR.out)
        intro h
        have := (HO.out.lt _ h.symm).1
        omega
      have HB5 : Hid (Below (w.heap.size + 2) ((w.alloc (.cells #[.int .u16 src, .int .u16 dst, .int .u16 id, .int .u8 proto, .int .u16 sport, .int .u16 dport] 24)).alloc (.cells #[.int .u16 0, .int .u16 0, .int .u8 0, .int .u16 0, .int .u8 0, .bool false, .int .u16 0, .int .u16 0, .slice none 0 0] 28)) w5) := (HB.out.alloc (by omega) _).grown hgrow (by simp; omega) (fun q hq => by have := (HO.out.lt q hq).1; omega)
      clear cp fp
      have cp := arr_cell HR5.out
      have fp := arr_frozen HR5.out
      clear hown hiff hnn hgrow HR HB HO hsz
      go_wp2
      go_roundw
      case rel =>
        refine ⟨k + 1, _, by omega, by go_num, ?_, row_setCell HR5.out _, HB5.out.setCell (by simp) _⟩
        have h := ownsRow_setCell_below HO5.out (a := ⟨w.heap.size + 1 + 1, 8, none⟩) (by simp) (.slice (some ⟨g, 0, none⟩) (k + 1) cv)
        simpa [fl, wrap_byte, Hid] using h
      case measure => simp [intOf]; omega
    · obtain rfl : k = n := by omega
      have HW : Hid (Below w.heap.size w wr) := (((Below.refl _ _).alloc (Nat.le_refl _) _).alloc (by simp) _).trans (HB.out.mono (by omega))
      rcases own_shape HO.out with rfl | ⟨g, cv, rfl⟩
      · clear HR HB
        go_wp2
        refine bodyPost_ret (v := .agg #[.int .u16 src, .int .u16 dst, .int .u8 proto, .int .u16 id, .int .u8 off, .bool more, .int .u16 0, .int .u16 0, .slice none 0 0]) ?_ rfl ⟨_, rfl, ?_, ?_⟩
        all_goals go_light
        · simp [results, Try.results10, go_sem, cr]
        · refine ownsRow_base (base := w.heap.size + 3) ?_ (by omega)
          repeat' first | with_reducible exact HO.out | with_reducible refine ownsRow_setCell_below ?_ ?_ _
          all_goals simp
        · repeat' first | with_reducible exact HW.out | with_reducible refine Below.setCell ?_ ?_ _
          all_goals simp
      · clear HR HB
        go_wp2
        refine bodyPost_ret (v := .agg #[.int .u16 src, .int .u16 dst, .int .u8 proto, .int .u16 id, .int .u8 off, .bool more, .int .u16 0, .int .u16 0, .slice (some ⟨g, 0, none⟩) k cv]) ?_ rfl ⟨_, rfl, ?_, ?_⟩
        all_goals go_light
        · simp [results, Try.results10, go_sem, cr]
        · refine ownsRow_base (base := w.heap.size + 3) ?_ (by omega)
          repeat' first | with_reducible exact HO.out | with_reducible refine ownsRow_setCell_below ?_ ?_ _
          all_goals simp
        · repeat' first | with_reducible exact HW.out | with_reducible refine Below.setCell ?_ ?_ _
          all_goals simp


end Go.Proofs.Ytajphdppmdoalaa

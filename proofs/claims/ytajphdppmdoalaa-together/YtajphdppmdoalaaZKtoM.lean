import Derived.Test.YtajphdppmdoalaaZHtoI
import Derived.Laws.BytesArg
namespace Go.Proofs.Ytajphdppmdoalaa
open Go.RowKit

/-- The bytes that a packet is filled with. -/
def fl (fill : Int) : Nat → List Int
  | 0 => []
  | k + 1 => fl fill k ++ [(fill + k) % 256]
theorem fl_length (fill : Int) (k : Nat) : (fl fill k).length = k := by
  induction k with
  | zero => rfl
  | succ k ih => simp [fl, ih]
theorem fl_bd (fill : Int) (k : Nat) : ∀ z ∈ fl fill k, 0 ≤ z ∧ z ≤ 255 := by
  induction k with
  | zero => simp [fl]
  | succ k ih =>
    intro z hz
    simp only [fl, List.mem_append, List.mem_singleton] at hz
    rcases hz with hz | rfl
    · exact ih z hz
    · omega
theorem wrap_byte (x : Int) : wrap64 x % 256 = x % 256 := by unfold wrap64; omega
set_option maxRecDepth 100000 in
set_option maxHeartbeats 800000 in
theorem packet_0 (src dst id proto sport dport : Int) (n : Nat) (more : Bool) (fill : Int) (w : World) (hn : n ≤ 32) :
    Calls Try.prog 10 #[.agg #[.int .u16 src, .int .u16 dst, .int .u16 id, .int .u8 proto, .int .u16 sport, .int .u16 dport], .int .i64 0, .int .i64 n, .bool more, .int .i64 fill] w fun e w' => ∃ v, e = .returned (.agg #[.int .u16 src, .int .u16 dst, .int .u8 proto, .int .u16 id, .int .u8 0, .bool more, .int .u16 sport, .int .u16 dport, v]) ∧ w'.ownsRow w.heap.size 5 1 v n ((fl fill n).map (Value.int .u8)) ∧ Below w.heap.size w w' := by
  obtain ⟨i5, hi, hz5, hz6, hz7⟩ := info_parts Try.info5
  go_enter Try.func10, Try.ntmps10
  go_wp2_with fail
  go_loopw [12] (fun i wr => ∃ (k : Nat) (v : Value), k ≤ n ∧ i = .int .i64 k ∧ Hid (wr.ownsRow (w.heap.size + 3) 5 1 v k ((fl fill k).map (Value.int .u8))) ∧ Hid (wr.heap[w.heap.size + 1 + 1]? = some (.cells #[.int .u16 src, .int .u16 dst, .int .u8 proto, .int .u16 id, .int .u8 0, .bool more, .int .u16 sport, .int .u16 dport, v] 28 (0, 0))) ∧ Hid (Below (w.heap.size + 2) ((w.alloc (.cells #[.int .u16 src, .int .u16 dst, .int .u16 id, .int .u8 proto, .int .u16 sport, .int .u16 dport] 24)).alloc (.cells #[.int .u16 0, .int .u16 0, .int .u8 0, .int .u16 0, .int .u8 0, .bool false, .int .u16 0, .int .u16 0, .slice none 0 0] 28)) wr))
    (fun i _ => n - (intOf i).toNat)
  case atStart => exact ⟨0, .slice none 0 0, Nat.zero_le _, rfl, World.ownsRow_nil _ _ _ _, by show _ = _; simpa using heap_alloc_new ((w.alloc (.cells #[.int .u16 src, .int .u16 dst, .int .u16 id, .int .u8 proto, .int .u16 sport, .int .u16 dport] 24)).alloc (.cells #[.int .u16 0, .int .u16 0, .int .u8 0, .int .u16 0, .int .u8 0, .bool false, .int .u16 0, .int .u16 0, .slice none 0 0] 28)) _, (Below.refl _ _).alloc (by simp) _⟩
  case round =>
    obtain ⟨k, v, hk, rfl, HO, HR, HB⟩ := hrel
    have cp := arr_cell HR.out
    have fp := arr_frozen HR.out
    have hsz : w.heap.size + 1 + 1 < wr.heap.size := lt_of_block HR.out
    have cr : ∀ j, wr.cell? ⟨w.heap.size + 1, j, none⟩ = #[.int .u16 0, .int .u16 0, .int .u8 0, .int .u16 0, .int .u8 0, .bool false, .int .u16 0, .int .u16 0, .slice none 0 0][j]? := fun j => (HB.out.cell (p := ⟨w.heap.size + 1, j, none⟩) (by simp)).trans (by simp)
    have fr : ∀ j, wr.frozen? ⟨w.heap.size + 1, j, none⟩ = false := fun j => (HB.out.frozen (p := ⟨w.heap.size + 1, j, none⟩) (by simp)).trans (by simp)
    by_cases hlt : k < n
    · clear cr fr
      go_wp2_with (at_builtin; refine wpList_append_own _ rfl (.tmp 39) (.tmp 44) 26 rfl (w.heap.size + 3) 5 i5 (.int .u8 0) 1 1 Try.underlying26 hi hz5 hz6 hz7 rfl (by decide) _ _ _ rfl (HO.out.alloc _) ⟨wr.heap.size, 0, none⟩ 1 1 [_] rfl rfl (cell_one_new _ _ _) (by simp [Value.oneCell']) (by unfold maxLen; omega) (by omega) (by simp; omega) ?_)
      intro v5 w5 hown hgrow hiff
      have hnn : v5 ≠ .slice none 0 0 := by intro h; first | exact hiff h | exact absurd (hiff.1 h).2 (by decide)
      have HO5 := hide hown
      obtain ⟨g, cv, rfl⟩ := (own_shape hown).resolve_left hnn
      have HR5 : Hid (w5.heap[w.heap.size + 1 + 1]? = some (.cells #[.int .u16 src, .int .u16 dst, .int .u8 proto, .int .u16 id, .int .u8 0, .bool more, .int .u16 sport, .int .u16 dport, v] 28 (0, 0))) := by
        refine Eq.trans (hgrow.block _ (by simp; omega) ?_) ((Below.heap_alloc _ _ _ (by omega)).trans HR.out)
        intro h
        have := (HO.out.lt _ h.symm).1
        omega
      have HB5 : Hid (Below (w.heap.size + 2) ((w.alloc (.cells #[.int .u16 src, .int .u16 dst, .int .u16 id, .int .u8 proto, .int .u16 sport, .int .u16 dport] 24)).alloc (.cells #[.int .u16 0, .int .u16 0, .int .u8 0, .int .u16 0, .int .u8 0, .bool false, .int .u16 0, .int .u16 0, .slice none 0 0] 28)) w5) := (HB.out.alloc (by omega) _).grown hgrow (by simp; omega) (fun q hq => by have := (HO.out.lt q hq).1; omega)
      clear cp fp
      have cp := arr_cell HR5.out
      have fp := arr_frozen HR5.out
      clear hown hiff hnn hgrow HR HB HO hsz
      go_wp2
      go_roundw
      case rel =>
        refine ⟨k + 1, _, by omega, by go_num, ?_, row_setCell HR5.out _, HB5.out.setCell (by simp) _⟩
        have h := ownsRow_setCell_below HO5.out (a := ⟨w.heap.size + 1 + 1, 8, none⟩) (by simp) (.slice (some ⟨g, 0, none⟩) (k + 1) cv)
        simpa [fl, wrap_byte, Hid] using h
      case measure => simp [intOf]; omega
    · obtain rfl : k = n := by omega
      have HW : Hid (Below w.heap.size w wr) := (((Below.refl _ _).alloc (Nat.le_refl _) _).alloc (by simp) _).trans (HB.out.mono (by omega))
      rcases own_shape HO.out with rfl | ⟨g, cv, rfl⟩
      · clear HR HB
        go_wp2
        refine bodyPost_ret (v := .agg #[.int .u16 src, .int .u16 dst, .int .u8 proto, .int .u16 id, .int .u8 0, .bool more, .int .u16 sport, .int .u16 dport, .slice none 0 0]) ?_ rfl ⟨_, rfl, ?_, ?_⟩
        all_goals go_light
        · simp [results, Try.results10, go_sem, cr]
        · refine ownsRow_base (base := w.heap.size + 3) ?_ (by omega)
          repeat' first | with_reducible exact HO.out | with_reducible refine ownsRow_setCell_below ?_ ?_ _
          all_goals simp
        · repeat' first | with_reducible exact HW.out | with_reducible refine Below.setCell ?_ ?_ _
          all_goals simp
      · clear HR HB
        go_wp2
        refine bodyPost_ret (v := .agg #[.int .u16 src, .int .u16 dst, .int .u8 proto, .int .u16 id, .int .u8 0, .bool more, .int .u16 sport, .int .u16 dport, .slice (some ⟨g, 0, none⟩) k cv]) ?_ rfl ⟨_, rfl, ?_, ?_⟩
        all_goals go_light
        · simp [results, Try.results10, go_sem, cr]
        · refine ownsRow_base (base := w.heap.size + 3) ?_ (by omega)
          repeat' first | with_reducible exact HO.out | with_reducible refine ownsRow_setCell_below ?_ ?_ _
          all_goals simp
        · repeat' first | with_reducible exact HW.out | with_reducible refine Below.setCell ?_ ?_ _
          all_goals simp

set_option maxRecDepth 100000 in
set_option maxHeartbeats 800000 in
theorem packet_1 (src dst id proto sport dport off : Int) (n : Nat) (more : Bool) (fill : Int) (w : World) (hoff0 : 0 ≤ off) (hoff : off ≤ 15) (h0 : (off == 0) = false) (hn : n ≤ 32) :
    Calls Try.prog 10 #[.agg #[.int .u16 src, .int .u16 dst, .int .u16 id, .int .u8 proto, .int .u16 sport, .int .u16 dport], .int .i64 off, .int .i64 n, .bool more, .int .i64 fill] w fun e w' => ∃ v, e = .returned (.agg #[.int .u16 src, .int .u16 dst, .int .u8 proto, .int .u16 id, .int .u8 off, .bool more, .int .u16 0, .int .u16 0, v]) ∧ w'.ownsRow w.heap.size 5 1 v n ((fl fill n).map (Value.int .u8)) ∧ Below w.heap.size w w' := by
  obtain ⟨i5, hi, hz5, hz6, hz7⟩ := info_parts Try.info5
  go_enter Try.func10, Try.ntmps10
  go_wp2_with fail
  go_loopw [12] (fun i wr => ∃ (k : Nat) (v : Value), k ≤ n ∧ i = .int .i64 k ∧ Hid (wr.ownsRow (w.heap.size + 3) 5 1 v k ((fl fill k).map (Value.int .u8))) ∧ Hid (wr.heap[w.heap.size + 1 + 1]? = some (.cells #[.int .u16 src, .int .u16 dst, .int .u8 proto, .int .u16 id, .int .u8 off, .bool more, .int .u16 0, .int .u16 0, v] 28 (0, 0))) ∧ Hid (Below (w.heap.size + 2) ((w.alloc (.cells #[.int .u16 src, .int .u16 dst, .int .u16 id, .int .u8 proto, .int .u16 sport, .int .u16 dport] 24)).alloc (.cells #[.int .u16 0, .int .u16 0, .int .u8 0, .int .u16 0, .int .u8 0, .bool false, .int .u16 0, .int .u16 0, .slice none 0 0] 28)) wr))
    (fun i _ => n - (intOf i).toNat)
  case atStart => exact ⟨0, .slice none 0 0, Nat.zero_le _, rfl, World.ownsRow_nil _ _ _ _, by show _ = _; simpa using heap_alloc_new ((w.alloc (.cells #[.int .u16 src, .int .u16 dst, .int .u16 id, .int .u8 proto, .int .u16 sport, .int .u16 dport] 24)).alloc (.cells #[.int .u16 0, .int .u16 0, .int .u8 0, .int .u16 0, .int .u8 0, .bool false, .int .u16 0, .int .u16 0, .slice none 0 0] 28)) _, (Below.refl _ _).alloc (by simp) _⟩
  case round =>
    obtain ⟨k, v, hk, rfl, HO, HR, HB⟩ := hrel
    have cp := arr_cell HR.out
    have fp := arr_frozen HR.out
    have hsz : w.heap.size + 1 + 1 < wr.heap.size := lt_of_block HR.out
    have cr : ∀ j, wr.cell? ⟨w.heap.size + 1, j, none⟩ = #[.int .u16 0, .int .u16 0, .int .u8 0, .int .u16 0, .int .u8 0, .bool false, .int .u16 0, .int .u16 0, .slice none 0 0][j]? := fun j => (HB.out.cell (p := ⟨w.heap.size + 1, j, none⟩) (by simp)).trans (by simp)
    have fr : ∀ j, wr.frozen? ⟨w.heap.size + 1, j, none⟩ = false := fun j => (HB.out.frozen (p := ⟨w.heap.size + 1, j, none⟩) (by simp)).trans (by simp)
    by_cases hlt : k < n
    · clear cr fr
      go_wp2_with (at_builtin; refine wpList_append_own _ rfl (.tmp 39) (.tmp 44) 26 rfl (w.heap.size + 3) 5 i5 (.int .u8 0) 1 1 Try.underlying26 hi hz5 hz6 hz7 rfl (by decide) _ _ _ rfl (HO.out.alloc _) ⟨wr.heap.size, 0, none⟩ 1 1 [_] rfl rfl (cell_one_new _ _ _) (by simp [Value.oneCell']) (by unfold maxLen; omega) (by omega) (by simp; omega) ?_)
      intro v5 w5 hown hgrow hiff
      have hnn : v5 ≠ .slice none 0 0 := by intro h; first | exact hiff h | exact absurd (hiff.1 h).2 (by decide)
      have HO5 := hide hown
      obtain ⟨g, cv, rfl⟩ := (own_shape hown).resolve_left hnn
      have HR5 : Hid (w5.heap[w.heap.size + 1 + 1]? = some (.cells #[.int .u16 src, .int .u16 dst, .int .u8 proto, .int .u16 id, .int .u8 off, .bool more, .int .u16 0, .int .u16 0, v] 28 (0, 0))) := by
        refine Eq.trans (hgrow.block _ (by simp; omega) ?_) ((Below.heap_alloc _ _ _ (by omega)).trans HR.out)
        intro h
        have := (HO.out.lt _ h.symm).1
        omega
      have HB5 : Hid (Below (w.heap.size + 2) ((w.alloc (.cells #[.int .u16 src, .int .u16 dst, .int .u16 id, .int .u8 proto, .int .u16 sport, .int .u16 dport] 24)).alloc (.cells #[.int .u16 0, .int .u16 0, .int .u8 0, .int .u16 0, .int .u8 0, .bool false, .int .u16 0, .int .u16 0, .slice none 0 0] 28)) w5) := (HB.out.alloc (by omega) _).grown hgrow (by simp; omega) (fun q hq => by have := (HO.out.lt q hq).1; omega)
      clear cp fp
      have cp := arr_cell HR5.out
      have fp := arr_frozen HR5.out
      clear hown hiff hnn hgrow HR HB HO hsz
      go_wp2
      go_roundw
      case rel =>
        refine ⟨k + 1, _, by omega, by go_num, ?_, row_setCell HR5.out _, HB5.out.setCell (by simp) _⟩
        have h := ownsRow_setCell_below HO5.out (a := ⟨w.heap.size + 1 + 1, 8, none⟩) (by simp) (.slice (some ⟨g, 0, none⟩) (k + 1) cv)
        simpa [fl, wrap_byte, Hid] using h
      case measure => simp [intOf]; omega
    · obtain rfl : k = n := by omega
      have HW : Hid (Below w.heap.size w wr) := (((Below.refl _ _).alloc (Nat.le_refl _) _).alloc (by simp) _).trans (HB.out.mono (by omega))
      rcases own_shape HO.out with rfl | ⟨g, cv, rfl⟩
      · clear HR HB
        go_wp2
        refine bodyPost_ret (v := .agg #[.int .u16 src, .int .u16 dst, .int .u8 proto, .int .u16 id, .int .u8 off, .bool more, .int .u16 0, .int .u16 0, .slice none 0 0]) ?_ rfl ⟨_, rfl, ?_, ?_⟩
        all_goals go_light
        · simp [results, Try.results10, go_sem, cr]
        · refine ownsRow_base (base := w.heap.size + 3) ?_ (by omega)
          repeat' first | with_reducible exact HO.out | with_reducible refine ownsRow_setCell_below ?_ ?_ _
          all_goals simp
        · repeat' first | with_reducible exact HW.out | with_reducible refine Below.setCell ?_ ?_ _
          all_goals simp
      · clear HR HB
        go_wp2
        refine bodyPost_ret (v := .agg #[.int .u16 src, .int .u16 dst, .int .u8 proto, .int .u16 id, .int .u8 off, .bool more, .int .u16 0, .int .u16 0, .slice (some ⟨g, 0, none⟩) k cv]) ?_ rfl ⟨_, rfl, ?_, ?_⟩
        all_goals go_light
        · simp [results, Try.results10, go_sem, cr]
        · refine ownsRow_base (base := w.heap.size + 3) ?_ (by omega)
          repeat' first | with_reducible exact HO.out | with_reducible refine ownsRow_setCell_below ?_ ?_ _
          all_goals simp
        · repeat' first | with_reducible exact HW.out | with_reducible refine Below.setCell ?_ ?_ _
          all_goals simp


end Go.Proofs.Ytajphdppmdoalaa

namespace Go.Proofs.Ytajphdppmdoalaa
open Go.RowKit

/-- 'string(b)'. -/
theorem conv_has {w : World} {ao : Option Addr} {zs : List Int} (h : Has w ao zs) (cap : Nat) : (convert 26 9 (.slice ao zs.length cap)).run Try.prog w = .ok (.string (strOfNums zs)) w := by
  cases ao with
  | none =>
    obtain rfl := h.1 rfl
    exact run_convert_bytes_nil (P := Try.prog) w 26 5 Try.underlying26 Try.underlying5 _ _ 9 Try.underlying9
  | some a =>
    by_cases hz : zs = []
    · subst hz
      rw [run_convert_bytes_string w 26 9 5 _ _ _ Try.underlying26 Try.underlying5 Try.underlying9]
      exact run_bytesToString w a 0 cap [] (by simpa using run_loadCells_list (P := Try.prog) w a [] (by simp))
    · obtain ⟨b, o, he, _, hc⟩ := h.2 hz
      obtain rfl : a = ⟨b, o, none⟩ := by simpa using he
      exact run_convert_bytes_arg (P := Try.prog) w 26 5 Try.underlying26 Try.underlying5 b o _ cap zs rfl hc 9 Try.underlying9

set_option maxRecDepth 100000 in
set_option maxHeartbeats 400000 in
theorem same_true (src dst proto id off : Int) (more : Bool) (sport dport : Int) (zs : List Int) (ao ao' : Option Addr) (n cap cap' : Nat) (w : World) (hn : zs.length = n) (h1 : Has w ao zs) (h2 : Has w ao' zs) :
    Calls Try.prog 13 #[.agg #[.int .u16 src, .int .u16 dst, .int .u8 proto, .int .u16 id, .int .u8 off, .bool more, .int .u16 sport, .int .u16 dport, .slice ao n cap], .agg #[.int .u16 src, .int .u16 dst, .int .u8 proto, .int .u16 id, .int .u8 off, .bool more, .int .u16 sport, .int .u16 dport, .slice ao' n cap']] w fun e w' => e = .returned (.bool true) ∧ Below w.heap.size w w' := by
  subst hn
  have hc1 : ∀ o o', (convert 26 9 (.slice ao zs.length cap)).run Try.prog ((w.alloc o).alloc o') = .ok (.string (strOfNums zs)) ((w.alloc o).alloc o') := fun o o' => conv_has (h1.below (((Below.refl _ _).alloc (Nat.le_refl _) _).alloc (by simp) _)) cap
  have hc2 : ∀ o o', (convert 26 9 (.slice ao' zs.length cap')).run Try.prog ((w.alloc o).alloc o') = .ok (.string (strOfNums zs)) ((w.alloc o).alloc o') := fun o o' => conv_has (h2.below (((Below.refl _ _).alloc (Nat.le_refl _) _).alloc (by simp) _)) cap'
  clear h1 h2
  go_enter Try.func13, Try.ntmps13
  go_wp2
  go_ret
  exact ⟨by simp, (((Below.refl _ _).alloc (Nat.le_refl _) _).alloc (by simp) _)⟩

set_option maxRecDepth 100000 in
set_option maxHeartbeats 400000 in
theorem packed_yes (src dst proto id off : Int) (more : Bool) (sport dport : Int) (ao : Option Addr) (n cap : Nat) (zs : List Int) (w : World) (hsrc0 : 0 ≤ src) (hsrc : src ≤ 65535) (hdst0 : 0 ≤ dst) (hdst : dst ≤ 65535) (hproto0 : 0 ≤ proto) (hproto : proto ≤ 255) (hid0 : 0 ≤ id) (hid : id ≤ 65535) (hoff0 : 0 ≤ off) (hoff : off ≤ 255) (hsport0 : 0 ≤ sport) (hsport : sport ≤ 65535) (hdport0 : 0 ≤ dport) (hdport : dport ≤ 65535) (hzs : zs.length = n) (hnil : ao = none → cap = 0) (hd : Has w ao zs) (hwf : wfB off more sport dport n = true) :
    Calls Try.prog 11 #[.agg #[.int .u16 src, .int .u16 dst, .int .u8 proto, .int .u16 id, .int .u8 off, .bool more, .int .u16 sport, .int .u16 dport, .slice ao n cap]] w fun e w' => ∃ g cv, e = .returned (.slice (some ⟨g, 0, none⟩) (pkL src dst proto id off more sport dport zs).length cv) ∧ w'.ownsRow w.heap.size 5 1 (.slice (some ⟨g, 0, none⟩) (pkL src dst proto id off more sport dport zs).length cv) (pkL src dst proto id off more sport dport zs).length ((pkL src dst proto id off more sport dport zs).map (Value.int .u8)) ∧ Below w.heap.size w w' := by
  have H := hide (fun w hd => fpack_yes src dst proto id off more sport dport ao n cap zs w hsrc0 hsrc hdst0 hdst hproto0 hproto hid0 hid hoff0 hoff hsport0 hsport hdport0 hdport hzs hnil hd hwf)
  have HD := hide hd
  have hlen : 12 ≤ (pkL src dst proto id off more sport dport zs).length := by simp [pkL, hdL]
  have hlen2 : (pkL src dst proto id off more sport dport zs).length ≤ 48 := by
    have : n ≤ 32 := by simp [wfB] at hwf; omega
    simp only [pkL, hdL, ptL]
    split <;> simp <;> omega
  generalize pkL src dst proto id off more sport dport zs = L at *
  clear hwf hzs hnil hd
  go_enter Try.func11, Try.ntmps11
  go_wp2_with fail
  refine (unhide H _ (HD.out.below ((Below.refl _ _).alloc (Nat.le_refl _) _))).mono ?_
  rintro e w1 ⟨v, rfl, ho, hnn, hb⟩
  obtain ⟨g, cv, rfl⟩ := (own_shape ho).resolve_left hnn
  have HO := hide ho
  clear ho hnn H
  go_wp2
  go_ret
  exact ⟨_, _, rfl, ownsRow_base HO.out (by simp), ((Below.refl _ _).alloc (Nat.le_refl _) _).trans (hb.mono (by simp))⟩

end Go.Proofs.Ytajphdppmdoalaa

namespace Go.Proofs.Ytajphdppmdoalaa
open Go.RowKit

theorem owns_has {w : World} {base g n cv : Nat} {zs : List Int} (h : w.ownsRow base 5 1 (.slice (some ⟨g, 0, none⟩) n cv) n (zs.map (Value.int .u8))) : Has w (some ⟨g, 0, none⟩) zs ∧ zs.length = n ∧ n ≤ cv ∧ cv ≤ maxLen := by
  obtain ⟨hl, h2⟩ := h
  have hl' : zs.length = n := by simpa using hl
  rcases h2 with ⟨h, _⟩ | ⟨g', cap', cur, he, hb, hh, h3, h4, h5, h6⟩
  · simp at h
  · simp only [Value.slice.injEq, Option.some.injEq, Addr.mk.injEq] at he
    obtain ⟨⟨rfl, _, _⟩, _, rfl⟩ := he
    refine ⟨⟨by simp, fun _ => ⟨g, 0, rfl, lt_of_block hh, fun j hj => ?_⟩⟩, hl', h3, h4⟩
    rw [arr_cell hh, Nat.zero_add]
    have h7 : (zs.map (Value.int .u8))[j]? = cur[j]? := by
      rw [← h6]
      rw [List.getElem?_take_of_lt (by omega), Array.getElem?_toList]
    rw [← h7, List.getElem?_map, List.getElem?_eq_getElem hj, List.getD_eq_getElem?_getD, List.getElem?_eq_getElem hj]
    rfl
theorem owns_nil_has {w : World} {base n : Nat} {zs : List Int} (h : w.ownsRow base 5 1 (.slice none 0 0) n (zs.map (Value.int .u8))) : zs = [] ∧ n = 0 := by
  obtain ⟨hl, h2⟩ := h
  rcases h2 with ⟨_, h⟩ | ⟨g', cap', cur, he, _⟩
  · subst h; simpa using hl
  · simp at he
theorem owns_any {w : World} {base n : Nat} {v : Value} {zs : List Int} (h : w.ownsRow base 5 1 v n (zs.map (Value.int .u8))) : ∃ ao cv, v = .slice ao n cv ∧ Has w ao zs ∧ zs.length = n ∧ n ≤ cv ∧ cv ≤ maxLen ∧ (ao = none → cv = 0) := by
  rcases own_shape h with rfl | ⟨g, cv, rfl⟩
  · obtain ⟨rfl, rfl⟩ := owns_nil_has h
    exact ⟨none, 0, rfl, ⟨fun _ => rfl, fun h => absurd rfl h⟩, rfl, Nat.le_refl _, by decide, fun _ => rfl⟩
  · obtain ⟨h1, h2, h3, h4⟩ := owns_has h
    exact ⟨_, cv, rfl, h1, h2, h3, h4, by simp⟩

/-- What is packed comes out again. -/
theorem up_pk (src dst proto id off : Int) (more : Bool) (sport dport : Int) (zs : List Int) (hsrc0 : 0 ≤ src) (hsrc : src ≤ 65535) (hdst0 : 0 ≤ dst) (hdst : dst ≤ 65535) (hproto0 : 0 ≤ proto) (hproto : proto ≤ 255) (hid0 : 0 ≤ id) (hid : id ≤ 65535) (hoff0 : 0 ≤ off) (hoff : off ≤ 255) (hsport0 : 0 ≤ sport) (hsport : sport ≤ 65535) (hdport0 : 0 ≤ dport) (hdport : dport ≤ 65535) (hwf : wfB off more sport dport zs.length = true) :
    upC (pkL src dst proto id off more sport dport zs) = 0 ∧ upP (pkL src dst proto id off more sport dport zs) = ⟨src, dst, proto, id, off, more, sport, dport, zs⟩ := by
  have hw := hwf
  simp only [wfB, Bool.and_eq_true, Bool.or_eq_true, decide_eq_true_eq, Bool.not_eq_true'] at hw
  have hcs := csum_bd (mk more) proto (src / 256) (src % 256) (dst / 256) (dst % 256) (id / 256) (id % 256) off (tl off zs.length) (by have := mk_bd more; omega) (by omega) (by omega) (by omega) (by omega) (by omega) (by omega) (by omega) (by omega) (by have := tl_bd off zs.length; omega)
  have hm : (mk more == 17) = more := by cases more <;> rfl
  have hm2 : ¬ (mk more ≠ 16 ∧ mk more ≠ 17) := by cases more <;> simp [mk]
  by_cases h0 : off = 0
  · subst h0
    have e : pkL src dst proto id 0 more sport dport zs = mk more :: proto :: (src / 256) :: (src % 256) :: (dst / 256) :: (dst % 256) :: (id / 256) :: (id % 256) :: 0 :: ((zs.length : Int) + 4) :: (cs src dst proto id 0 more zs.length / 256) :: (cs src dst proto id 0 more zs.length % 256) :: (sport / 256) :: (sport % 256) :: (dport / 256) :: (dport % 256) :: zs := by
      simp [pkL, hdL, ptL, tl]
    rw [e]
    have k1 : sport / 256 * 256 + sport % 256 = sport := by omega
    have k2 : dport / 256 * 256 + dport % 256 = dport := by omega
    have k3 : src / 256 * 256 + src % 256 = src := by omega
    have k4 : dst / 256 * 256 + dst % 256 = dst := by omega
    have k5 : id / 256 * 256 + id % 256 = id := by omega
    constructor
    · simp only [upC]
      rw [if_neg hm2, if_neg (by simp; omega), if_neg (by unfold cs tl; simp; omega), if_neg (by simp [spOf, dpOf, dtOf, hm, k1, k2, hwf])]
    · simp [upP, spOf, dpOf, dtOf, hm, k1, k2, k3, k4, k5]
  · have hp : sport = 0 ∧ dport = 0 := by omega
    obtain ⟨rfl, rfl⟩ := hp
    have e : pkL src dst proto id off more 0 0 zs = mk more :: proto :: (src / 256) :: (src % 256) :: (dst / 256) :: (dst % 256) :: (id / 256) :: (id % 256) :: off :: (zs.length : Int) :: (cs src dst proto id off more zs.length / 256) :: (cs src dst proto id off more zs.length % 256) :: zs := by
      simp [pkL, hdL, ptL, tl, h0]
    rw [e]
    have k3 : src / 256 * 256 + src % 256 = src := by omega
    have k4 : dst / 256 * 256 + dst % 256 = dst := by omega
    have k5 : id / 256 * 256 + id % 256 = id := by omega
    have esp : ∀ r, spOf off r = 0 := by intro r; unfold spOf; split; exact if_neg h0; rfl
    have edp : ∀ r, dpOf off r = 0 := by intro r; unfold dpOf; split; exact if_neg h0; rfl
    have edt : ∀ r, dtOf off r = r := fun r => if_neg h0
    constructor
    · simp only [upC]
      rw [if_neg hm2, if_neg (by simp; omega), if_neg (by unfold cs tl; simp [h0]; omega), if_neg (by simp [esp, edp, edt, hm, hwf])]
    · simp [upP, esp, edp, edt, hm, k3, k4, k5]
/-- Every byte of a packed packet is one. -/
theorem pk_bytes (src dst proto id off : Int) (more : Bool) (sport dport : Int) (zs : List Int) (hsrc0 : 0 ≤ src) (hsrc : src ≤ 65535) (hdst0 : 0 ≤ dst) (hdst : dst ≤ 65535) (hproto0 : 0 ≤ proto) (hproto : proto ≤ 255) (hid0 : 0 ≤ id) (hid : id ≤ 65535) (hoff0 : 0 ≤ off) (hoff : off ≤ 255) (hsport0 : 0 ≤ sport) (hsport : sport ≤ 65535) (hdport0 : 0 ≤ dport) (hdport : dport ≤ 65535) (hn : zs.length ≤ 32) (hz : ∀ z ∈ zs, 0 ≤ z ∧ z ≤ 255) : ∀ z ∈ pkL src dst proto id off more sport dport zs, 0 ≤ z ∧ z ≤ 255 := by
  have hcs := csum_bd (mk more) proto (src / 256) (src % 256) (dst / 256) (dst % 256) (id / 256) (id % 256) off (tl off zs.length) (by have := mk_bd more; omega) (by omega) (by omega) (by omega) (by omega) (by omega) (by omega) (by omega) (by omega) (by have := tl_bd off zs.length; omega)
  have h1 := mk_bd more
  have h2 := tl_bd off zs.length
  intro z h
  simp only [pkL, List.mem_append] at h
  rcases h with (h | h) | h
  · simp only [hdL, cs, List.mem_cons, List.not_mem_nil, or_false] at h
    rcases h with rfl | rfl | rfl | rfl | rfl | rfl | rfl | rfl | rfl | rfl | rfl | rfl <;> omega
  · unfold ptL at h
    split at h
    · simp only [List.mem_cons, List.not_mem_nil, or_false] at h
      rcases h with rfl | rfl | rfl | rfl <;> omega
    · simp at h
  · exact hz z h

end Go.Proofs.Ytajphdppmdoalaa

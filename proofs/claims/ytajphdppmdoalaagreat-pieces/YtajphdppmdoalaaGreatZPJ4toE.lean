import Derived.Test.YtajphdppmdoalaaGreatZPAtoJ3
import Derived.Laws.AppendOwnNone
import Derived.Laws.CopyOwn
namespace Go.Proofs.YtajphdppmdoalaaGreat
open Go.RowKit
set_option linter.unusedVariables false

/-- Table's error. -/
def tE (zs : List Int) : Int := if 6 < zs.length ∨ (asc zs).length < zs.length then 1 else if zs.length = 0 then 7 else 0
def TabPost (w : World) (zs : List Int) (e : Ending) (w' : World) : Prop :=
  Below w.heap.size w w' ∧ ((tE zs = 0 ∧ ∃ v, e = .returned (.tuple #[v, .int .i64 0]) ∧ w'.ownsRow w.heap.size 5 1 v 31 ((tbl zs).map (Value.int .u8)) ∧ v ≠ .slice none 0 0) ∨ (tE zs ≠ 0 ∧ e = .returned (.tuple #[.slice none 0 0, .int .i64 (tE zs)])))

/-- The slots, as the array. -/
def tbA (Z : List (Option Int)) : Array Value := (Z.map (fun o => Value.int .u8 (o.getD 0))).toArray
theorem tbA_set (Z : List (Option Int)) (i : Nat) (b : Int) : (tbA Z).setIfInBounds i (.int .u8 b) = tbA (Z.set i (some b)) := by
  rw [tbA, tbA, List.setIfInBounds_toArray, List.map_set]
  rfl
theorem tbA_size (Z : List (Option Int)) : (tbA Z).size = Z.length := by simp [tbA]

set_option maxRecDepth 100000 in
set_option maxHeartbeats 800000 in
theorem ctable_big (ao : Option Addr) (n cap : Nat) (w : World) (h6 : 6 < n) (hn : n ≤ 9223372036854775807) :
    Calls Tryz.prog 68 #[.slice ao n cap] w fun e w' => e = .returned (.tuple #[.slice none 0 0, .int .i64 1]) ∧ w' = w := by
  go_enter Tryz.func68, Tryz.ntmps68
  go_wp2
  go_ret2
  exact ⟨rfl, rfl⟩

set_option maxRecDepth 100000 in
set_option maxHeartbeats 800000 in
theorem ctable_twice (ao : Option Addr) (n cap : Nat) (zs : List Int) (w : World) (hl : zs.length = n) (hd : Has w ao zs) (h6 : n ≤ 6) (hlt : (asc zs).length < n) :
    Calls Tryz.prog 68 #[.slice ao n cap] w fun e w' => e = .returned (.tuple #[.slice none 0 0, .int .i64 1]) ∧ Below w.heap.size w w' := by
  have H := hide (ascending_any ao n cap zs w hl hd (by omega))
  go_enter Tryz.func68, Tryz.ntmps68
  go_wp2_with fail
  refine H.out.mono ?_
  rintro e w1 ⟨v, rfl, ho, hb⟩
  have hal : (asc zs).length ≤ 256 := ascK_len zs 256
  have HB := hide hb
  rcases own_shape ho with rfl | ⟨g, cv, rfl⟩
  · have hn0 : 0 < n := by omega
    clear ho hb H
    go_wp2
    go_ret2
    exact ⟨rfl, HB.out⟩
  · clear ho hb H
    go_wp2
    go_ret2
    exact ⟨rfl, HB.out⟩

set_option maxRecDepth 100000 in
set_option maxHeartbeats 800000 in
theorem ctable_none (ao : Option Addr) (cap : Nat) (w : World) (hd : Has w ao []) :
    Calls Tryz.prog 68 #[.slice ao 0 cap] w fun e w' => e = .returned (.tuple #[.slice none 0 0, .int .i64 7]) ∧ Below w.heap.size w w' := by
  have H := hide (ascending_any ao 0 cap [] w rfl hd (by omega))
  rw [(asc_nil [] (by simp)).2 rfl] at H
  go_enter Tryz.func68, Tryz.ntmps68
  go_wp2_with fail
  refine H.out.mono ?_
  rintro e w1 ⟨v, rfl, ho, hb⟩
  have HB := hide hb
  rcases own_shape ho with rfl | ⟨g, cv, rfl⟩
  · clear ho hb H
    go_wp2
    go_ret2
    exact ⟨rfl, HB.out⟩
  · clear ho hb H
    go_wp2
    go_ret2
    exact ⟨rfl, HB.out⟩

theorem made_const (z : Value) (n : Nat) : madeCells #[z] n = (List.replicate n z).toArray := by
  apply Array.ext
  · simp [madeCells]
  · intro i h1 h2
    simp [madeCells, Nat.mod_one]
theorem made_tb : madeCells #[.int .u8 0] 31 = tbA (List.replicate 31 none) := by rw [made_const, tbA, List.map_replicate]; rfl
theorem zero_tk : (List.replicate 31 (Value.bool false)).toArray = tkA (List.replicate 31 none) := by rw [tkA, List.map_replicate]; rfl
theorem info_31b : (Tryz.prog.info? 137).map (·.size) = some 31 := by kernel_rfl
theorem arr_some {w : World} {g : Nat} {cs : Array Value} {t : TypeId} (h : w.heap[g]? = some (.cells cs t (0, 0))) {j : Nat} (hj : j < cs.size) : ∃ o, w.cell? ⟨g, j, none⟩ = some o :=
  ⟨cs[j], by rw [arr_cell h, Array.getElem?_eq_getElem hj]⟩
theorem tb_facts (zs : List Int) : ∃ TB : Nat → List (Option Int), Hid (tbl zs = (TB 31).map (·.getD 0)) ∧ Hid (TB 0 = List.replicate 31 none) ∧ Hid (∀ k, TB (k + 1) = (TB k).set (slotOf ((asc zs).getD (k % (asc zs).length) 0) (TB k)) (some ((asc zs).getD (k % (asc zs).length) 0))) ∧ Hid (∀ k, (TB k).length = 31) := by
  refine ⟨tbK (asc zs), hide ?_, hide ?_, hide ?_, hide ?_⟩
  · rw [tbl]
  · rw [tbK]
  · intro k; rw [tbK]
  · exact tbK_len _

set_option maxRecDepth 100000 in
set_option maxHeartbeats 1600000 in
theorem ctable_ok (ao : Option Addr) (n cap : Nat) (zs : List Int) (w : World) (hl : zs.length = n) (hd : Has w ao zs) (h1 : 1 ≤ n) (h6 : n ≤ 6) (hz : ∀ z ∈ zs, 0 ≤ z ∧ z ≤ 255) (hnd : (asc zs).length = n) :
    Calls Tryz.prog 68 #[.slice ao n cap] w fun e w' => ∃ v, e = .returned (.tuple #[v, .int .i64 0]) ∧ w'.ownsRow w.heap.size 5 1 v 31 ((tbl zs).map (Value.int .u8)) ∧ v ≠ .slice none 0 0 ∧ Below w.heap.size w w' := by
  have H := hide (ascending_any ao n cap zs w hl hd (by omega))
  rw [hnd] at H
  obtain ⟨TB, HT, H0, HS, HLN⟩ := tb_facts zs
  have HOB : Hid (∀ b ∈ asc zs, 0 ≤ b ∧ b < 256) := ascK_bd zs 256
  have HL := hide hnd
  generalize hord : asc zs = ord
  rw [hord] at H HS HOB HL
  rw [HL.out] at HS
  generalize hTT : tbl zs = TT
  rw [hTT] at HT
  clear hTT
  clear hd hl hz hord hnd
  go_enter Tryz.func68, Tryz.ntmps68
  go_wp2_with fail
  refine H.out.mono ?_
  rintro e w1 ⟨v, rfl, ho, hb⟩
  obtain ⟨g, cv, rfl⟩ := (own_shape ho).resolve_left (by rintro rfl; rcases ho.2 with ⟨_, h⟩ | ⟨_, _, _, h, _⟩; omega; simp at h)
  have HO := hide ho
  have HB := hide hb
  have hz1 : w.heap.size ≤ w1.heap.size := hb.size
  clear ho hb H
  have hmk : (Instr.makeSlice 38 (.int .i64 31) (.int .i64 31)).run Tryz.prog w1 = .ok (.slice (some ⟨w1.heap.size, 0, none⟩) 31 31) (w1.alloc (.cells (tbA (TB 0)) 5)) := by
    have h := run_make_row' (P := Tryz.prog) 38 5 (.int .u8 0) 1 Tryz.underlying38 info_u8 rfl .i64 .i64 31 (by omega) (by omega) w1
    rw [made_tb, ← H0.out] at h
    exact h
  go_wp2_with fail
  generalize Value.bool (decide (6 < (n : Int))) = x12
  generalize Value.bool ((n : Int) == 0) = x22
  go_loopw [7] (fun i wr => ∃ k : Nat, k ≤ 31 ∧ i = .int .i64 k ∧ Hid (wr.heap[w1.heap.size]? = some (.cells (tbA (TB k)) 5 (0, 0))) ∧ Hid (wr.heap[w1.heap.size + 1]? = some (.cells (tkA (TB k)) 137 (0, 0))) ∧ Hid (Below w1.heap.size w1 wr))
    (fun i _ => 31 - (intOf i).toNat)
  case atStart =>
    refine ⟨0, by omega, rfl, hide ?_, hide ?_, hide ?_⟩
    · exact (Below.heap_alloc _ _ _ (by simp)).trans (heap_alloc_new _ _)
    · have h := heap_alloc_new (w1.alloc (.cells (tbA (TB 0)) 5)) (.cells (List.replicate 31 (Value.bool false)).toArray 137)
      rw [World.size_alloc] at h
      rw [H0.out] at h ⊢
      rw [zero_tk] at h
      exact h
    · exact ((Below.refl _ _).alloc (Nat.le_refl _) _).alloc (by simp) _
  case round =>
    obtain ⟨k, hk, rfl, HA, HK, HR⟩ := hrel
    clear hmk
    have hza : w1.heap.size < wr.heap.size := lt_of_block HA.out
    have hzk : w1.heap.size + 1 < wr.heap.size := lt_of_block HK.out
    by_cases hlt : k < 31
    · have hr : (k : Int) % (n : Int) = ((k % n : Nat) : Int) := by omega
      have hrn : k % n < n := Nat.mod_lt _ (by omega)
      have hgl : g < w1.heap.size := (HO.out.lt g rfl).2
      have c0 : wr.cell? ⟨g, k % n, none⟩ = some (.int .u8 (ord.getD (k % n) 0)) := by
        rw [HR.out.cell (p := ⟨g, k % n, none⟩) hgl, HO.out.cellAt (k % n) (by omega), List.getElem?_map, List.getElem?_eq_getElem (by rw [HL.out]; exact hrn), List.getD_eq_getElem?_getD, List.getElem?_eq_getElem (by rw [HL.out]; exact hrn)]
        rfl
      have hbb : 0 ≤ ord.getD (k % n) 0 ∧ ord.getD (k % n) 0 < 256 := HOB.out _ (by rw [List.getD_eq_getElem?_getD, List.getElem?_eq_getElem (by rw [HL.out]; exact hrn)]; exact List.getElem_mem _)
      have HS1 := hide (HS.out k)
      generalize ord.getD (k % n) 0 = b at *
      generalize k % n = r at *
      have HW := hide (wanted_any b (TB k) wr (by omega) (by omega) (HLN.out k))
      have hsl := slotOf_lt b (TB k)
      generalize slotOf b (TB k) = sl at *
      have hsi : (Tryz.prog.info? 137).map (·.size) = some (tkA (TB k)).size := by rw [info_31b, tkA_size, HLN.out]
      generalize hT : tkA (TB k) = T at HK HW hsi
      have HTT := hide hT
      clear hT
      have hK := HK.out
      go_wp2_with (refine wpList_load_row rfl 137 _ rfl (w1.heap.size + 1) rfl 137 T (0, 0) _ hK Tryz.underlying137 rfl hsi ?_)
      refine HW.out.mono ?_
      rintro e w4 ⟨rfl, hb4⟩
      have HB4 := hide hb4
      have hz4 : wr.heap.size ≤ w4.heap.size := hb4.size
      clear hb4 c0 hK hsi
      have hA4 : w4.heap[w1.heap.size]? = some (.cells (tbA (TB k)) 5 (0, 0)) := (HB4.out.block _ hza).trans HA.out
      have hK4 : w4.heap[w1.heap.size + 1]? = some (.cells T 137 (0, 0)) := (HB4.out.block _ hzk).trans HK.out
      have HA4 := hide hA4
      have HK4 := hide hK4
      have fa := arr_frozen hA4
      have fk := arr_frozen hK4
      obtain ⟨o1, co1⟩ := arr_some hA4 (j := sl) (by rw [tbA_size, HLN.out]; exact hsl)
      obtain ⟨o2, co2⟩ := arr_some hK4 (j := sl) (by rw [← HTT.out, tkA_size, HLN.out]; exact hsl)
      clear hA4 hK4
      go_wp2
      go_roundw
      case rel =>
        refine ⟨k + 1, by omega, by go_num, hide ?_, hide ?_, hide ?_⟩
        · rw [HS1.out, ← tbA_set]
          exact (Below.heap_setCell _ _ _ _ (by simp)).trans (row_setCell HA4.out _)
        · rw [HS1.out, ← tkA_set, HTT.out]
          exact row_setCell ((Below.heap_setCell _ _ _ _ (by simp)).trans HK4.out) _
        · exact ((HR.out.trans (HB4.out.mono (by omega))).setCell (Nat.le_refl _) _).setCell (by simp) _
      case measure => simp [intOf]; omega
    · obtain rfl : k = 31 := by omega
      have HW : Hid (Below w.heap.size w wr) := HB.out.trans (HR.out.mono hz1)
      have HLN31 := hide (HLN.out 31)
      go_wp2
      go_ret2
      refine ⟨_, rfl, ?_, by simp, HW.out⟩
      refine ⟨by simp [HT.out, HLN31.out], .inr ⟨w1.heap.size, 31, tbA (TB 31), rfl, hz1, HA.out, by omega, by decide, by rw [tbA_size, HLN31.out], ?_⟩⟩
      rw [HT.out, tbA]
      rw [List.toList_toArray, List.map_map, List.take_of_length_le (by rw [List.length_map, HLN31.out]; omega)]
      rfl

theorem ctable_any (ao : Option Addr) (n cap : Nat) (zs : List Int) (w : World) (hl : zs.length = n) (hd : Has w ao zs) (hn : n ≤ 9223372036854775807) (hz : ∀ z ∈ zs, 0 ≤ z ∧ z ≤ 255) :
    Calls Tryz.prog 68 #[.slice ao n cap] w (TabPost w zs) := by
  by_cases h6 : 6 < n
  · refine (ctable_big ao n cap w h6 hn).mono ?_
    rintro e w' ⟨rfl, rfl⟩
    have he : tE zs = 1 := by rw [tE, if_pos (.inl (by omega))]
    exact ⟨Below.refl _ _, .inr ⟨by rw [he]; decide, by rw [he]⟩⟩
  · by_cases hlt : (asc zs).length < n
    · refine (ctable_twice ao n cap zs w hl hd (by omega) hlt).mono ?_
      rintro e w' ⟨rfl, hb⟩
      have he : tE zs = 1 := by rw [tE, if_pos (.inr (by omega))]
      exact ⟨hb, .inr ⟨by rw [he]; decide, by rw [he]⟩⟩
    · by_cases h0 : n = 0
      · subst h0
        obtain rfl : zs = [] := List.eq_nil_of_length_eq_zero hl
        refine (ctable_none ao cap w hd).mono ?_
        rintro e w' ⟨rfl, hb⟩
        have he : tE [] = 7 := by rw [tE, if_neg (by simp)]; rfl
        exact ⟨hb, .inr ⟨by rw [he]; decide, by rw [he]⟩⟩
      · have hle := (asc_len zs hz).1
        refine (ctable_ok ao n cap zs w hl hd (by omega) (by omega) hz (by omega)).mono ?_
        rintro e w' ⟨v, rfl, ho, hnn, hb⟩
        have he : tE zs = 0 := by rw [tE, if_neg (by omega), if_neg (by omega)]
        exact ⟨hb, .inl ⟨he, v, rfl, ho, hnn⟩⟩

end Go.Proofs.YtajphdppmdoalaaGreat

namespace Go.Proofs.YtajphdppmdoalaaGreat
open Go.RowKit

set_option maxHeartbeats 400000 in
theorem ofHead_any (h0 h1 h2 h3 h4 h5 h6 h7 h8 h9 h10 h11 : Int) (w : World) (b2 : 0 ≤ h2 ∧ h2 ≤ 255) (b3 : 0 ≤ h3 ∧ h3 ≤ 255) (b4 : 0 ≤ h4 ∧ h4 ≤ 255) (b5 : 0 ≤ h5 ∧ h5 ≤ 255) (b6 : 0 ≤ h6 ∧ h6 ≤ 255) (b7 : 0 ≤ h7 ∧ h7 ≤ 255) :
    Calls Tryz.prog 90 #[.agg #[.int .u8 h0, .int .u8 h1, .int .u8 h2, .int .u8 h3, .int .u8 h4, .int .u8 h5, .int .u8 h6, .int .u8 h7, .int .u8 h8, .int .u8 h9, .int .u8 h10, .int .u8 h11]] w fun e w' => e = .returned (.agg #[.int .u16 (h2 * 256 + h3), .int .u16 (h4 * 256 + h5), .int .u8 h1, .int .u16 (h6 * 256 + h7), .int .u8 h8, .bool (h0 == 17), .int .u16 0, .int .u16 0, .slice none 0 0]) ∧ Below w.heap.size w w' := by
  go_enter Tryz.func90, Tryz.ntmps90
  go_wp2_with (go_at_call 89; refine (word_any _ _ _ (by omega) (by omega) (by omega) (by omega)).mono ?_; rintro e w' ⟨rfl, rfl⟩)
  refine bodyPost_ret (v := .agg #[.int .u16 (h2 * 256 + h3), .int .u16 (h4 * 256 + h5), .int .u8 h1, .int .u16 (h6 * 256 + h7), .int .u8 h8, .bool (h0 == 17), .int .u16 0, .int .u16 0, .slice none 0 0]) ?_ rfl ⟨rfl, ?_⟩
  all_goals go_light
  · simp [results, Tryz.results90, go_sem]
  · repeat (first | exact Below.refl _ _ | refine Below.setCell ?_ (by simp; try omega) _ | refine below_drewN ?_ _ | refine Below.alloc ?_ (by simp; try omega) _)

end Go.Proofs.YtajphdppmdoalaaGreat

namespace Go.Proofs.YtajphdppmdoalaaGreat
open Go.RowKit

end Go.Proofs.YtajphdppmdoalaaGreat

namespace Go.Proofs.YtajphdppmdoalaaGreat
open Go.RowKit

theorem Tryz.info5 : (Tryz.prog.info? 5).map (fun i => (i.zero, i.size, i.bytes)) = some (some (.int .u8 0), 1, 1) := by kernel_rfl

end Go.Proofs.YtajphdppmdoalaaGreat

namespace Go.Proofs.YtajphdppmdoalaaGreat
open Go.RowKit

set_option maxRecDepth 100000 in
set_option maxHeartbeats 400000 in
theorem unpack_short (ao : Option Addr) (n cap : Nat) (w : World) (hn : n < 12) :
    Calls Tryz.prog 64 #[.slice ao n cap] w fun e w' => e = .returned (.tuple #[.agg #[.int .u16 0, .int .u16 0, .int .u8 0, .int .u16 0, .int .u8 0, .bool false, .int .u16 0, .int .u16 0, .slice none 0 0], .int .i64 2]) ∧ Below w.heap.size w w' := by
  go_enter Tryz.func64, Tryz.ntmps64
  go_wp2
  refine bodyPost_ret (v := .tuple #[.agg #[.int .u16 0, .int .u16 0, .int .u8 0, .int .u16 0, .int .u8 0, .bool false, .int .u16 0, .int .u16 0, .slice none 0 0], .int .i64 2]) ?_ rfl ⟨rfl, ?_⟩
  all_goals go_light
  · simp [results, Tryz.results64, go_sem]
  · repeat' first | with_reducible exact Below.refl _ _ | with_reducible refine Below.setCell ?_ ?_ _ | with_reducible refine below_drewN ?_ _ | with_reducible refine Below.alloc ?_ ?_ _
    all_goals (simp; try omega)

theorem alloc_setRow (w : World) (old new : Array Value) (t : TypeId) : (w.alloc (.cells old t)).setRow w.heap.size new = w.alloc (.cells new t) := by
  have h : (w.heap.push (.cells old t)).modify w.heap.size (fun | .cells _ elem frozen => .cells new elem frozen | o => o) = w.heap.push (.cells new t) := by
    apply Array.ext_getElem?
    intro i
    rw [Array.getElem?_modify, Array.getElem?_push, Array.getElem?_push]
    by_cases hi : i = w.heap.size
    · subst hi; simp
    · simp [hi, Ne.symm hi]
  exact congrArg (fun h => ({ w with heap := h } : World)) h

/-- 'copy(h[:], b)' where h is new: h holds the first twelve bytes. -/
theorem copy_head (b o n cap : Nat) (h0 h1 h2 h3 h4 h5 h6 h7 h8 h9 h10 h11 : Int) (r : List Int) (w : World) (hn : 12 + r.length = n) (hd : Has w (some ⟨b, o, none⟩) ([h0, h1, h2, h3, h4, h5, h6, h7, h8, h9, h10, h11] ++ r)) :
    Sem.run Tryz.prog (Builtin.copy_ #[38, 38] 3 #[.slice (some ⟨w.heap.size + 1, 0, none⟩) 12 12, .slice (some ⟨b, o, none⟩) n cap]) ((w.alloc (.cells #[.int .u16 0, .int .u16 0, .int .u8 0, .int .u16 0, .int .u8 0, .bool false, .int .u16 0, .int .u16 0, .slice none 0 0] 40)).alloc (.cells #[.int .u8 0, .int .u8 0, .int .u8 0, .int .u8 0, .int .u8 0, .int .u8 0, .int .u8 0, .int .u8 0, .int .u8 0, .int .u8 0, .int .u8 0, .int .u8 0] 131))
      = .ok (goInt 12) ((w.alloc (.cells #[.int .u16 0, .int .u16 0, .int .u8 0, .int .u16 0, .int .u8 0, .bool false, .int .u16 0, .int .u16 0, .slice none 0 0] 40)).alloc (.cells #[.int .u8 h0, .int .u8 h1, .int .u8 h2, .int .u8 h3, .int .u8 h4, .int .u8 h5, .int .u8 h6, .int .u8 h7, .int .u8 h8, .int .u8 h9, .int .u8 h10, .int .u8 h11] 131)) := by
  have := run_copy_row (P := Tryz.prog) ((w.alloc (.cells #[.int .u16 0, .int .u16 0, .int .u8 0, .int .u16 0, .int .u8 0, .bool false, .int .u16 0, .int .u16 0, .slice none 0 0] 40)).alloc (.cells #[.int .u8 0, .int .u8 0, .int .u8 0, .int .u8 0, .int .u8 0, .int .u8 0, .int .u8 0, .int .u8 0, .int .u8 0, .int .u8 0, .int .u8 0, .int .u8 0] 131)) 38 38 3 5 (w.heap.size + 1) 0 12 12 ⟨b, o, none⟩ n cap #[.int .u8 0, .int .u8 0, .int .u8 0, .int .u8 0, .int .u8 0, .int .u8 0, .int .u8 0, .int .u8 0, .int .u8 0, .int .u8 0, .int .u8 0, .int .u8 0] 131 [Value.int .u8 h0, Value.int .u8 h1, Value.int .u8 h2, Value.int .u8 h3, Value.int .u8 h4, Value.int .u8 h5, Value.int .u8 h6, Value.int .u8 h7, Value.int .u8 h8, Value.int .u8 h9, Value.int .u8 h10, Value.int .u8 h11] Tryz.underlying38 (by kernel_rfl) (by simpa using heap_alloc_new (w.alloc _) _) (by simp [Nat.min_def]; omega) ?_ (by simp) (by simp [Value.oneCell'])
  · rw [this]
    have h := alloc_setRow (w.alloc (.cells #[.int .u16 0, .int .u16 0, .int .u8 0, .int .u16 0, .int .u8 0, .bool false, .int .u16 0, .int .u16 0, .slice none 0 0] 40))
    simp only [World.size_alloc] at h
    rw [h]
    rfl
  · intro j v hj
    have hjl : j < 12 := by
      by_cases hj' : j < 12
      · exact hj'
      · rw [List.getElem?_eq_none (by simp; omega)] at hj; exact absurd hj (by simp)
    have h := Has.cells hd j v (by rw [List.map_append, List.getElem?_append_left (by simpa using hjl)]; exact hj)
    exact cell_later (((Below.refl _ _).alloc (Nat.le_refl _) _).alloc (by simp) _) h

end Go.Proofs.YtajphdppmdoalaaGreat

import Derived.Test.YtajphdppmdoalabZAtoJ3
namespace Go.Proofs.Ytajphdppmdoalab
open Go.RowKit
set_option linter.unusedVariables false

/-- Table's error. -/
def tE (zs : List Int) : Int := if 6 < zs.length ∨ (asc zs).length < zs.length then 1 else if zs.length = 0 then 7 else 0
def TabPost (w : World) (zs : List Int) (e : Ending) (w' : World) : Prop :=
  Below w.heap.size w w' ∧ ((tE zs = 0 ∧ ∃ v, e = .returned (.tuple #[v, .int .i64 0]) ∧ w'.ownsRow w.heap.size 5 1 v 31 ((tbl zs).map (Value.int .u8)) ∧ v ≠ .slice none 0 0) ∨ (tE zs ≠ 0 ∧ e = .returned (.tuple #[.slice none 0 0, .int .i64 (tE zs)])))

/-- The slots, as the array. -/
def tbA (Z : List (Option Int)) : Array Value := (Z.map (fun o => Value.int .u8 (o.getD 0))).toArray
theorem tbA_set (Z : List (Option Int)) (i : Nat) (b : Int) : (tbA Z).setIfInBounds i (.int .u8 b) = tbA (Z.set i (some b)) := by
  rw [tbA, tbA, List.setIfInBounds_toArray, List.map_set]
  rfl
theorem tbA_size (Z : List (Option Int)) : (tbA Z).size = Z.length := by simp [tbA]

set_option maxRecDepth 100000 in
set_option maxHeartbeats 800000 in
theorem ctable_big (ao : Option Addr) (n cap : Nat) (w : World) (h6 : 6 < n) (hn : n ≤ 9223372036854775807) :
    Calls Try.prog 23 #[.slice ao n cap] w fun e w' => e = .returned (.tuple #[.slice none 0 0, .int .i64 1]) ∧ w' = w := by
  go_enter Try.func23, Try.ntmps23
  go_wp2
  go_ret2
  exact ⟨rfl, rfl⟩

set_option maxRecDepth 100000 in
set_option maxHeartbeats 800000 in
theorem ctable_twice (ao : Option Addr) (n cap : Nat) (zs : List Int) (w : World) (hl : zs.length = n) (hd : Has w ao zs) (h6 : n ≤ 6) (hlt : (asc zs).length < n) :
    Calls Try.prog 23 #[.slice ao n cap] w fun e w' => e = .returned (.tuple #[.slice none 0 0, .int .i64 1]) ∧ Below w.heap.size w w' := by
  have H := hide (ascending_any ao n cap zs w hl hd (by omega))
  go_enter Try.func23, Try.ntmps23
  go_wp2_with fail
  refine H.out.mono ?_
  rintro e w1 ⟨v, rfl, ho, hb⟩
  have hal : (asc zs).length ≤ 256 := ascK_len zs 256
  have HB := hide hb
  rcases own_shape ho with rfl | ⟨g, cv, rfl⟩
  · have hn0 : 0 < n := by omega
    clear ho hb H
    go_wp2
    go_ret2
    exact ⟨rfl, HB.out⟩
  · clear ho hb H
    go_wp2
    go_ret2
    exact ⟨rfl, HB.out⟩

set_option maxRecDepth 100000 in
set_option maxHeartbeats 800000 in
theorem ctable_none (ao : Option Addr) (cap : Nat) (w : World) (hd : Has w ao []) :
    Calls Try.prog 23 #[.slice ao 0 cap] w fun e w' => e = .returned (.tuple #[.slice none 0 0, .int .i64 7]) ∧ Below w.heap.size w w' := by
  have H := hide (ascending_any ao 0 cap [] w rfl hd (by omega))
  rw [(asc_nil [] (by simp)).2 rfl] at H
  go_enter Try.func23, Try.ntmps23
  go_wp2_with fail
  refine H.out.mono ?_
  rintro e w1 ⟨v, rfl, ho, hb⟩
  have HB := hide hb
  rcases own_shape ho with rfl | ⟨g, cv, rfl⟩
  · clear ho hb H
    go_wp2
    go_ret2
    exact ⟨rfl, HB.out⟩
  · clear ho hb H
    go_wp2
    go_ret2
    exact ⟨rfl, HB.out⟩

theorem made_const (z : Value) (n : Nat) : madeCells #[z] n = (List.replicate n z).toArray := by
  apply Array.ext
  · simp [madeCells]
  · intro i h1 h2
    simp [madeCells, Nat.mod_one]
theorem made_tb : madeCells #[.int .u8 0] 31 = tbA (List.replicate 31 none) := by rw [made_const, tbA, List.map_replicate]; rfl
theorem zero_tk : (List.replicate 31 (Value.bool false)).toArray = tkA (List.replicate 31 none) := by rw [tkA, List.map_replicate]; rfl
theorem info_31b : (Try.prog.info? 91).map (·.size) = some 31 := by kernel_rfl
theorem arr_some {w : World} {g : Nat} {cs : Array Value} {t : TypeId} (h : w.heap[g]? = some (.cells cs t (0, 0))) {j : Nat} (hj : j < cs.size) : ∃ o, w.cell? ⟨g, j, none⟩ = some o :=
  ⟨cs[j], by rw [arr_cell h, Array.getElem?_eq_getElem hj]⟩
theorem tb_facts (zs : List Int) : ∃ TB : Nat → List (Option Int), Hid (tbl zs = (TB 31).map (·.getD 0)) ∧ Hid (TB 0 = List.replicate 31 none) ∧ Hid (∀ k, TB (k + 1) = (TB k).set (slotOf ((asc zs).getD (k % (asc zs).length) 0) (TB k)) (some ((asc zs).getD (k % (asc zs).length) 0))) ∧ Hid (∀ k, (TB k).length = 31) := by
  refine ⟨tbK (asc zs), hide ?_, hide ?_, hide ?_, hide ?_⟩
  · rw [tbl]
  · rw [tbK]
  · intro k; rw [tbK]
  · exact tbK_len _

set_option maxRecDepth 100000 in
set_option maxHeartbeats 1600000 in
theorem ctable_ok (ao : Option Addr) (n cap : Nat) (zs : List Int) (w : World) (hl : zs.length = n) (hd : Has w ao zs) (h1 : 1 ≤ n) (h6 : n ≤ 6) (hz : ∀ z ∈ zs, 0 ≤ z ∧ z ≤ 255) (hnd : (asc zs).length = n) :
    Calls Try.prog 23 #[.slice ao n cap] w fun e w' => ∃ v, e = .returned (.tuple #[v, .int .i64 0]) ∧ w'.ownsRow w.heap.size 5 1 v 31 ((tbl zs).map (Value.int .u8)) ∧ v ≠ .slice none 0 0 ∧ Below w.heap.size w w' := by
  have H := hide (ascending_any ao n cap zs w hl hd (by omega))
  rw [hnd] at H
  obtain ⟨TB, HT, H0, HS, HLN⟩ := tb_facts zs
  have HOB : Hid (∀ b ∈ asc zs, 0 ≤ b ∧ b < 256) := ascK_bd zs 256
  have HL := hide hnd
  generalize hord : asc zs = ord
  rw [hord] at H HS HOB HL
  rw [HL.out] at HS
  generalize hTT : tbl zs = TT
  rw [hTT] at HT
  clear hTT
  clear hd hl hz hord hnd
  go_enter Try.func23, Try.ntmps23
  go_wp2_with fail
  refine H.out.mono ?_
  rintro e w1 ⟨v, rfl, ho, hb⟩
  obtain ⟨g, cv, rfl⟩ := (own_shape ho).resolve_left (by rintro rfl; rcases ho.2 with ⟨_, h⟩ | ⟨_, _, _, h, _⟩; omega; simp at h)
  have HO := hide ho
  have HB := hide hb
  have hz1 : w.heap.size ≤ w1.heap.size := hb.size
  clear ho hb H
  have hmk : (Instr.makeSlice 26 (.int .i64 31) (.int .i64 31)).run Try.prog w1 = .ok (.slice (some ⟨w1.heap.size, 0, none⟩) 31 31) (w1.alloc (.cells (tbA (TB 0)) 5)) := by
    have h := run_make_row' (P := Try.prog) 26 5 (.int .u8 0) 1 Try.underlying26 info_u8 rfl .i64 .i64 31 (by omega) (by omega) w1
    rw [made_tb, ← H0.out] at h
    exact h
  go_wp2_with fail
  generalize Value.bool (decide (6 < (n : Int))) = x12
  generalize Value.bool ((n : Int) == 0) = x22
  go_loopw [7] (fun i wr => ∃ k : Nat, k ≤ 31 ∧ i = .int .i64 k ∧ Hid (wr.heap[w1.heap.size]? = some (.cells (tbA (TB k)) 5 (0, 0))) ∧ Hid (wr.heap[w1.heap.size + 1]? = some (.cells (tkA (TB k)) 91 (0, 0))) ∧ Hid (Below w1.heap.size w1 wr))
    (fun i _ => 31 - (intOf i).toNat)
  case atStart =>
    refine ⟨0, by omega, rfl, hide ?_, hide ?_, hide ?_⟩
    · exact (Below.heap_alloc _ _ _ (by simp)).trans (heap_alloc_new _ _)
    · have h := heap_alloc_new (w1.alloc (.cells (tbA (TB 0)) 5)) (.cells (List.replicate 31 (Value.bool false)).toArray 91)
      rw [World.size_alloc] at h
      rw [H0.out] at h ⊢
      rw [zero_tk] at h
      exact h
    · exact ((Below.refl _ _).alloc (Nat.le_refl _) _).alloc (by simp) _
  case round =>
    obtain ⟨k, hk, rfl, HA, HK, HR⟩ := hrel
    clear hmk
    have hza : w1.heap.size < wr.heap.size := lt_of_block HA.out
    have hzk : w1.heap.size + 1 < wr.heap.size := lt_of_block HK.out
    by_cases hlt : k < 31
    · have hr : (k : Int) % (n : Int) = ((k % n : Nat) : Int) := by omega
      have hrn : k % n < n := Nat.mod_lt _ (by omega)
      have hgl : g < w1.heap.size := (HO.out.lt g rfl).2
      have c0 : wr.cell? ⟨g, k % n, none⟩ = some (.int .u8 (ord.getD (k % n) 0)) := by
        rw [HR.out.cell (p := ⟨g, k % n, none⟩) hgl, HO.out.cellAt (k % n) (by omega), List.getElem?_map, List.getElem?_eq_getElem (by rw [HL.out]; exact hrn), List.getD_eq_getElem?_getD, List.getElem?_eq_getElem (by rw [HL.out]; exact hrn)]
        rfl
      have hbb : 0 ≤ ord.getD (k % n) 0 ∧ ord.getD (k % n) 0 < 256 := HOB.out _ (by rw [List.getD_eq_getElem?_getD, List.getElem?_eq_getElem (by rw [HL.out]; exact hrn)]; exact List.getElem_mem _)
      have HS1 := hide (HS.out k)
      generalize ord.getD (k % n) 0 = b at *
      generalize k % n = r at *
      have HW := hide (wanted_any b (TB k) wr (by omega) (by omega) (HLN.out k))
      have hsl := slotOf_lt b (TB k)
      generalize slotOf b (TB k) = sl at *
      have hsi : (Try.prog.info? 91).map (·.size) = some (tkA (TB k)).size := by rw [info_31b, tkA_size, HLN.out]
      generalize hT : tkA (TB k) = T at HK HW hsi
      have HTT := hide hT
      clear hT
      have hK := HK.out
      go_wp2_with (refine wpList_load_row rfl 91 _ rfl (w1.heap.size + 1) rfl 91 T (0, 0) _ hK Try.underlying91 rfl hsi ?_)
      refine HW.out.mono ?_
      rintro e w4 ⟨rfl, hb4⟩
      have HB4 := hide hb4
      have hz4 : wr.heap.size ≤ w4.heap.size := hb4.size
      clear hb4 c0 hK hsi
      have hA4 : w4.heap[w1.heap.size]? = some (.cells (tbA (TB k)) 5 (0, 0)) := (HB4.out.block _ hza).trans HA.out
      have hK4 : w4.heap[w1.heap.size + 1]? = some (.cells T 91 (0, 0)) := (HB4.out.block _ hzk).trans HK.out
      have HA4 := hide hA4
      have HK4 := hide hK4
      have fa := arr_frozen hA4
      have fk := arr_frozen hK4
      obtain ⟨o1, co1⟩ := arr_some hA4 (j := sl) (by rw [tbA_size, HLN.out]; exact hsl)
      obtain ⟨o2, co2⟩ := arr_some hK4 (j := sl) (by rw [← HTT.out, tkA_size, HLN.out]; exact hsl)
      clear hA4 hK4
      go_wp2
      go_roundw
      case rel =>
        refine ⟨k + 1, by omega, by go_num, hide ?_, hide ?_, hide ?_⟩
        · rw [HS1.out, ← tbA_set]
          exact (Below.heap_setCell _ _ _ _ (by simp)).trans (row_setCell HA4.out _)
        · rw [HS1.out, ← tkA_set, HTT.out]
          exact row_setCell ((Below.heap_setCell _ _ _ _ (by simp)).trans HK4.out) _
        · exact ((HR.out.trans (HB4.out.mono (by omega))).setCell (Nat.le_refl _) _).setCell (by simp) _
      case measure => simp [intOf]; omega
    · obtain rfl : k = 31 := by omega
      have HW : Hid (Below w.heap.size w wr) := HB.out.trans (HR.out.mono hz1)
      have HLN31 := hide (HLN.out 31)
      go_wp2
      go_ret2
      refine ⟨_, rfl, ?_, by simp, HW.out⟩
      refine ⟨by simp [HT.out, HLN31.out], .inr ⟨w1.heap.size, 31, tbA (TB 31), rfl, hz1, HA.out, by omega, by decide, by rw [tbA_size, HLN31.out], ?_⟩⟩
      rw [HT.out, tbA]
      rw [List.toList_toArray, List.map_map, List.take_of_length_le (by rw [List.length_map, HLN31.out]; omega)]
      rfl

theorem ctable_any (ao : Option Addr) (n cap : Nat) (zs : List Int) (w : World) (hl : zs.length = n) (hd : Has w ao zs) (hn : n ≤ 9223372036854775807) (hz : ∀ z ∈ zs, 0 ≤ z ∧ z ≤ 255) :
    Calls Try.prog 23 #[.slice ao n cap] w (TabPost w zs) := by
  by_cases h6 : 6 < n
  · refine (ctable_big ao n cap w h6 hn).mono ?_
    rintro e w' ⟨rfl, rfl⟩
    have he : tE zs = 1 := by rw [tE, if_pos (.inl (by omega))]
    exact ⟨Below.refl _ _, .inr ⟨by rw [he]; decide, by rw [he]⟩⟩
  · by_cases hlt : (asc zs).length < n
    · refine (ctable_twice ao n cap zs w hl hd (by omega) hlt).mono ?_
      rintro e w' ⟨rfl, hb⟩
      have he : tE zs = 1 := by rw [tE, if_pos (.inr (by omega))]
      exact ⟨hb, .inr ⟨by rw [he]; decide, by rw [he]⟩⟩
    · by_cases h0 : n = 0
      · subst h0
        obtain rfl : zs = [] := List.eq_nil_of_length_eq_zero hl
        refine (ctable_none ao cap w hd).mono ?_
        rintro e w' ⟨rfl, hb⟩
        have he : tE [] = 7 := by rw [tE, if_neg (by simp)]; rfl
        exact ⟨hb, .inr ⟨by rw [he]; decide, by rw [he]⟩⟩
      · have hle := (asc_len zs hz).1
        refine (ctable_ok ao n cap zs w hl hd (by omega) (by omega) hz (by omega)).mono ?_
        rintro e w' ⟨v, rfl, ho, hnn, hb⟩
        have he : tE zs = 0 := by rw [tE, if_neg (by omega), if_neg (by omega)]
        exact ⟨hb, .inl ⟨he, v, rfl, ho, hnn⟩⟩

end Go.Proofs.Ytajphdppmdoalab

namespace Go.Proofs.Ytajphdppmdoalab
open Go.RowKit

set_option maxHeartbeats 400000 in
theorem ofHead_any (h0 h1 h2 h3 h4 h5 h6 h7 h8 h9 h10 h11 : Int) (w : World) (b2 : 0 ≤ h2 ∧ h2 ≤ 255) (b3 : 0 ≤ h3 ∧ h3 ≤ 255) (b4 : 0 ≤ h4 ∧ h4 ≤ 255) (b5 : 0 ≤ h5 ∧ h5 ≤ 255) (b6 : 0 ≤ h6 ∧ h6 ≤ 255) (b7 : 0 ≤ h7 ∧ h7 ≤ 255) :
    Calls Try.prog 41 #[.agg #[.int .u8 h0, .int .u8 h1, .int .u8 h2, .int .u8 h3, .int .u8 h4, .int .u8 h5, .int .u8 h6, .int .u8 h7, .int .u8 h8, .int .u8 h9, .int .u8 h10, .int .u8 h11]] w fun e w' => e = .returned (.agg #[.int .u16 (h2 * 256 + h3), .int .u16 (h4 * 256 + h5), .int .u8 h1, .int .u16 (h6 * 256 + h7), .int .u8 h8, .bool (h0 == 17), .int .u16 0, .int .u16 0, .slice none 0 0]) ∧ Below w.heap.size w w' := by
  go_enter Try.func41, Try.ntmps41
  go_wp2_with (go_at_call 40; refine (word_any _ _ _ (by omega) (by omega) (by omega) (by omega)).mono ?_; rintro e w' ⟨rfl, rfl⟩)
  refine bodyPost_ret (v := .agg #[.int .u16 (h2 * 256 + h3), .int .u16 (h4 * 256 + h5), .int .u8 h1, .int .u16 (h6 * 256 + h7), .int .u8 h8, .bool (h0 == 17), .int .u16 0, .int .u16 0, .slice none 0 0]) ?_ rfl ⟨rfl, ?_⟩
  all_goals go_light
  · simp [results, Try.results41, go_sem]
  · repeat (first | exact Below.refl _ _ | refine Below.setCell ?_ (by simp; try omega) _ | refine below_drewN ?_ _ | refine Below.alloc ?_ (by simp; try omega) _)

end Go.Proofs.Ytajphdppmdoalab

namespace Go.Proofs.Ytajphdppmdoalab
open Go.RowKit

theorem bcell {W w1 : World} (hb : Below W.heap.size W w1) : (∀ b o, b < W.heap.size → w1.cell? ⟨b, o, none⟩ = W.cell? ⟨b, o, none⟩) ∧ (∀ b o, b < W.heap.size → w1.frozen? ⟨b, o, none⟩ = W.frozen? ⟨b, o, none⟩) :=
  ⟨fun b o h => hb.cell (p := ⟨b, o, none⟩) h, fun b o h => hb.frozen (p := ⟨b, o, none⟩) h⟩

set_option maxHeartbeats 1600000 in
theorem headOf_any (src dst proto id off : Int) (more : Bool) (sport dport : Int) (ao : Option Addr) (n cap : Nat) (w : World) (hsrc0 : 0 ≤ src) (hsrc : src ≤ 65535) (hdst0 : 0 ≤ dst) (hdst : dst ≤ 65535) (hproto0 : 0 ≤ proto) (hproto : proto ≤ 255) (hid0 : 0 ≤ id) (hid : id ≤ 65535) (hoff0 : 0 ≤ off) (hoff : off ≤ 255) (hn : n ≤ 32) :
    Calls Try.prog 46 #[.agg #[.int .u16 src, .int .u16 dst, .int .u8 proto, .int .u16 id, .int .u8 off, .bool more, .int .u16 sport, .int .u16 dport, .slice ao n cap]] w fun e w' => e = .returned (.agg #[.int .u8 (mk more), .int .u8 proto, .int .u8 (src / 256), .int .u8 (src % 256), .int .u8 (dst / 256), .int .u8 (dst % 256), .int .u8 (id / 256), .int .u8 (id % 256), .int .u8 off, .int .u8 (tl off n), .int .u8 (cs src dst proto id off more n / 256), .int .u8 (cs src dst proto id off more n % 256)]) ∧ Below w.heap.size w w' := by
  have hcs := csum_bd (mk more) proto (src / 256) (src % 256) (dst / 256) (dst % 256) (id / 256) (id % 256) off (tl off n) (by have := mk_bd more; omega) (by omega) (by omega) (by omega) (by omega) (by omega) (by omega) (by omega) (by omega) (by have := tl_bd off n; omega)
  unfold cs
  cases more
  · by_cases h0 : off = 0
    · subst h0
      rw [show mk false = 16 from rfl, show tl 0 n = (n : Int) + 4 from rfl] at hcs ⊢
      go_enter Try.func46, Try.ntmps46
      go_wp2_with fail
      refine (checksum_any 16 proto (src / 256) (src % 256) (dst / 256) (dst % 256) (id / 256) (id % 256) 0 ((n : Int) + 4) 0 0 _ (by omega) (by omega) (by omega) (by omega) (by omega) (by omega) (by omega) (by omega) (by omega) (by omega)).mono ?_
      generalize hcc : csum 16 proto (src / 256) (src % 256) (dst / 256) (dst % 256) (id / 256) (id % 256) 0 ((n : Int) + 4) = c at *
      have HC := hide hcc
      clear hcc
      rintro e w1 ⟨rfl, m, rfl⟩
      go_wp2
      refine bodyPost_ret (v := .agg #[.int .u8 16, .int .u8 proto, .int .u8 (src / 256), .int .u8 (src % 256), .int .u8 (dst / 256), .int .u8 (dst % 256), .int .u8 (id / 256), .int .u8 (id % 256), .int .u8 0, .int .u8 ((n : Int) + 4), .int .u8 (c / 256), .int .u8 (c % 256)]) ?_ rfl ⟨by rw [unhide HC], ?_⟩
      all_goals go_light
      · simp [results, Try.results46, go_sem]
      · clear hcs HC
        repeat' first | with_reducible exact Below.refl _ _ | with_reducible refine Below.setCell ?_ ?_ _ | with_reducible refine below_drewN ?_ _ | with_reducible refine Below.alloc ?_ ?_ _
        all_goals (simp; try omega)
    · have h0' : (off == 0) = false := by simp [h0]
      rw [show mk false = 16 from rfl, show tl off n = (n : Int) from if_neg h0] at hcs ⊢
      clear h0
      go_enter Try.func46, Try.ntmps46
      go_wp2_with fail
      refine (checksum_any 16 proto (src / 256) (src % 256) (dst / 256) (dst % 256) (id / 256) (id % 256) off (n : Int) 0 0 _ (by omega) (by omega) (by omega) (by omega) (by omega) (by omega) (by omega) (by omega) (by omega) (by omega)).mono ?_
      generalize hcc : csum 16 proto (src / 256) (src % 256) (dst / 256) (dst % 256) (id / 256) (id % 256) off (n : Int) = c at *
      have HC := hide hcc
      clear hcc
      rintro e w1 ⟨rfl, m, rfl⟩
      go_wp2
      refine bodyPost_ret (v := .agg #[.int .u8 16, .int .u8 proto, .int .u8 (src / 256), .int .u8 (src % 256), .int .u8 (dst / 256), .int .u8 (dst % 256), .int .u8 (id / 256), .int .u8 (id % 256), .int .u8 off, .int .u8 (n : Int), .int .u8 (c / 256), .int .u8 (c % 256)]) ?_ rfl ⟨by rw [unhide HC], ?_⟩
      all_goals go_light
      · simp [results, Try.results46, go_sem]
      · clear hcs HC
        repeat' first | with_reducible exact Below.refl _ _ | with_reducible refine Below.setCell ?_ ?_ _ | with_reducible refine below_drewN ?_ _ | with_reducible refine Below.alloc ?_ ?_ _
        all_goals (simp; try omega)
  · by_cases h0 : off = 0
    · subst h0
      rw [show mk true = 17 from rfl, show tl 0 n = (n : Int) + 4 from rfl] at hcs ⊢
      go_enter Try.func46, Try.ntmps46
      go_wp2_with fail
      refine (checksum_any 17 proto (src / 256) (src % 256) (dst / 256) (dst % 256) (id / 256) (id % 256) 0 ((n : Int) + 4) 0 0 _ (by omega) (by omega) (by omega) (by omega) (by omega) (by omega) (by omega) (by omega) (by omega) (by omega)).mono ?_
      generalize hcc : csum 17 proto (src / 256) (src % 256) (dst / 256) (dst % 256) (id / 256) (id % 256) 0 ((n : Int) + 4) = c at *
      have HC := hide hcc
      clear hcc
      rintro e w1 ⟨rfl, m, rfl⟩
      go_wp2
      refine bodyPost_ret (v := .agg #[.int .u8 17, .int .u8 proto, .int .u8 (src / 256), .int .u8 (src % 256), .int .u8 (dst / 256), .int .u8 (dst % 256), .int .u8 (id / 256), .int .u8 (id % 256), .int .u8 0, .int .u8 ((n : Int) + 4), .int .u8 (c / 256), .int .u8 (c % 256)]) ?_ rfl ⟨by rw [unhide HC], ?_⟩
      all_goals go_light
      · simp [results, Try.results46, go_sem]
      · clear hcs HC
        repeat' first | with_reducible exact Below.refl _ _ | with_reducible refine Below.setCell ?_ ?_ _ | with_reducible refine below_drewN ?_ _ | with_reducible refine Below.alloc ?_ ?_ _
        all_goals (simp; try omega)
    · have h0' : (off == 0) = false := by simp [h0]
      rw [show mk true = 17 from rfl, show tl off n = (n : Int) from if_neg h0] at hcs ⊢
      clear h0
      go_enter Try.func46, Try.ntmps46
      go_wp2_with fail
      refine (checksum_any 17 proto (src / 256) (src % 256) (dst / 256) (dst % 256) (id / 256) (id % 256) off (n : Int) 0 0 _ (by omega) (by omega) (by omega) (by omega) (by omega) (by omega) (by omega) (by omega) (by omega) (by omega)).mono ?_
      generalize hcc : csum 17 proto (src / 256) (src % 256) (dst / 256) (dst % 256) (id / 256) (id % 256) off (n : Int) = c at *
      have HC := hide hcc
      clear hcc
      rintro e w1 ⟨rfl, m, rfl⟩
      go_wp2
      refine bodyPost_ret (v := .agg #[.int .u8 17, .int .u8 proto, .int .u8 (src / 256), .int .u8 (src % 256), .int .u8 (dst / 256), .int .u8 (dst % 256), .int .u8 (id / 256), .int .u8 (id % 256), .int .u8 off, .int .u8 (n : Int), .int .u8 (c / 256), .int .u8 (c % 256)]) ?_ rfl ⟨by rw [unhide HC], ?_⟩
      all_goals go_light
      · simp [results, Try.results46, go_sem]
      · clear hcs HC
        repeat' first | with_reducible exact Below.refl _ _ | with_reducible refine Below.setCell ?_ ?_ _ | with_reducible refine below_drewN ?_ _ | with_reducible refine Below.alloc ?_ ?_ _
        all_goals (simp; try omega)

end Go.Proofs.Ytajphdppmdoalab

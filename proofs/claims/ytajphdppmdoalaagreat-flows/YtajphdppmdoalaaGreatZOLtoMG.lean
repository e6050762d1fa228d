import Derived.Test.YtajphdppmdoalaaGreatZOHtoOK
import Derived.Laws.MakeOwn
import Derived.Test.YtajphdppmdoalaaGreatZMDtoND
namespace Go.Proofs.YtajphdppmdoalaaGreat
open Go.RowKit
set_option linter.unusedVariables false

theorem Tryz.infoSt : (Tryz.prog.info? 122).map (fun i => (i.zero, i.size, i.bytes)) = some (some (.agg #[.slice none 0 0]), 1, 24) := by kernel_rfl
theorem made_store (n : Nat) : madeCells (Value.agg #[.slice none 0 0]).cells n = Array.replicate n (.slice none 0 0) := by
  apply Array.ext
  · simp [madeCells]
  · intro i h1 h2
    simp [madeCells, Value.cells, Nat.mod_one]

set_option maxRecDepth 100000 in
set_option maxHeartbeats 1600000 in
theorem new_ok (N : Nat) (life : Int) (w : World) (hN1 : 1 ≤ N) (hN5 : N ≤ 5) (hl1 : 1 ≤ life) (hl2 : life ≤ 20) :
    Calls Tryz.prog 14 #[.int .i64 N, .int .i64 life] w fun e w' => ∃ xb F, e = .returned (.tuple #[.pointer (some ⟨xb, 0, none⟩), .int .i64 0]) ∧ PrIs w' xb (Cl.new N life) F ∧ (∀ k, F k → w.heap.size ≤ k) ∧ Below w.heap.size w w' := by
  obtain ⟨i0, hi, hq0, hq1, hq2⟩ := info_parts Tryz.infoSt
  have hmk : ∀ w : World, (Instr.makeSlice 66 (.int .i64 (N : Int)) (.int .i64 (N : Int))).run Tryz.prog w = .ok (.slice (some ⟨w.heap.size, 0, none⟩) N N) (w.alloc (.cells (Array.replicate N (.slice none 0 0)) 122)) := by
    intro w
    have h := run_make (P := Tryz.prog) w 66 122 i0 _ Tryz.underlying66 hi hq0 .i64 .i64 (N : Int) (N : Int) (by omega) (Int.le_refl _) (by rw [hq2]; omega) (by omega)
    rw [Int.toNat_natCast, hq1, Nat.mul_one, made_store] at h
    exact h
  have hNi1 : (1 : Int) ≤ (N : Int) := by omega
  have hNi5 : (N : Int) ≤ 5 := by omega
  generalize hCS : Array.replicate N (Value.slice none 0 0) = cs at *
  have HCS := hide hCS
  clear hCS hi hq0 hq1 hq2
  go_enter Tryz.func14, Tryz.ntmps14
  go_wp2
  go_ret2
  have hsz : cs.size = N := by rw [← HCS.out]; simp
  have hge : ∀ o, o < N → cs[o]? = some (.slice none 0 0) := by intro o ho; rw [← HCS.out]; simp [ho]
  have hB0 : ((w.alloc (.cells cs 122)).alloc (.cells #[.slice (some ⟨w.heap.size, 0, none⟩) N N, .int .i64 life, .slice none 0 0, .int .i64 0, .slice none 0 0, .slice none 0 0] 69)).heap[w.heap.size]? = some (.cells cs 122 (0, 0)) := (Below.heap_alloc _ _ _ (by simp)).trans (heap_alloc_new _ _)
  have hB1 : ((w.alloc (.cells cs 122)).alloc (.cells #[.slice (some ⟨w.heap.size, 0, none⟩) N N, .int .i64 life, .slice none 0 0, .int .i64 0, .slice none 0 0, .slice none 0 0] 69)).heap[w.heap.size + 1]? = some (.cells #[.slice (some ⟨w.heap.size, 0, none⟩) N N, .int .i64 life, .slice none 0 0, .int .i64 0, .slice none 0 0, .slice none 0 0] 69 (0, 0)) := by
    have := heap_alloc_new (w.alloc (.cells cs 122)) (.cells #[.slice (some ⟨w.heap.size, 0, none⟩) N N, .int .i64 life, .slice none 0 0, .int .i64 0, .slice none 0 0, .slice none 0 0] 69)
    rwa [World.size_alloc] at this
  refine ⟨w.heap.size + 1, fun k => k = w.heap.size ∨ k = w.heap.size + 1, rfl, ⟨w.heap.size, cs, .slice none 0 0, .slice none 0 0, .slice none 0 0, fun _ => [], fun _ _ => False, ⟨?_, hB0, ?_, World.ownsRow_nil _ _ _ _, World.ownsRow_nil _ _ _ _, World.ownsRow_nil _ _ _ _, fun _ _ _ _ hh => hh.elim, fun _ _ hh => hh.elim, .inr rfl, .inl rfl, fun g hg => by simp [Value.ownBlock] at hg, fun g hg => by simp [Value.ownBlock] at hg, fun g hg => by simp [Value.ownBlock] at hg, ?_⟩, ?_, ?_⟩, ?_, ?_⟩
  · rw [hsz]
    exact hB1
  · intro o ho
    rw [hsz] at ho
    exact ⟨.slice none 0 0, hge o ho, ⟨World.ownsRow_nil _ _ _ _, by simp, by simp, List.Pairwise.nil, List.Pairwise.nil, fun g hg => by simp [Value.ownBlock] at hg, by simp, by simp, fun _ hh => hh.elim⟩⟩
  · intro k hk
    simp only [World.size_alloc]
    omega
  · rw [hsz]
    rfl
  · intro o _
    rfl
  · intro k hk
    omega
  · exact ((Below.refl _ _).alloc (Nat.le_refl _) _).alloc (by simp) _

set_option maxRecDepth 100000 in
set_option maxHeartbeats 1600000 in
theorem new_bad (r life : Int) (w : World) (h : r < 1 ∨ 5 < r ∨ life < 1 ∨ 20 < life) :
    Calls Tryz.prog 14 #[.int .i64 r, .int .i64 life] w fun e w' => e = .returned (.tuple #[.pointer none, .int .i64 1]) ∧ w' = w := by
  have hd : (decide (r < 1) || decide (5 < r) || decide (life < 1) || decide (20 < life)) = true := by
    simp only [Bool.or_eq_true, decide_eq_true_eq]
    omega
  by_cases h1 : r < 1
  · go_enter Tryz.func14, Tryz.ntmps14
    go_wp2
    go_ret2
    exact ⟨rfl, rfl⟩
  · by_cases h2 : 5 < r
    · go_enter Tryz.func14, Tryz.ntmps14
      go_wp2
      go_ret2
      exact ⟨rfl, rfl⟩
    · by_cases h3 : life < 1
      · go_enter Tryz.func14, Tryz.ntmps14
        go_wp2
        go_ret2
        exact ⟨rfl, rfl⟩
      · have h4 : 20 < life := by omega
        go_enter Tryz.func14, Tryz.ntmps14
        go_wp2
        go_ret2
        exact ⟨rfl, rfl⟩

theorem tE_tbl (zs : List Int) (h0 : tE zs = 0) : tblOf zs = tbl zs ∧ (tbl zs).length = 31 := by
  refine ⟨?_, tbl_len zs⟩
  unfold tblOf
  rw [if_neg]
  intro hz0
  unfold tE at h0
  split at h0
  · omega
  · first
    | omega
    | (split at h0 <;> omega)
theorem tE_none (zs : List Int) (h0 : tE zs ≠ 0) (h1 : tE zs ≠ 1) : tblOf zs = [] := by
  unfold tblOf
  rw [if_pos]
  unfold tE at h0 h1
  by_cases h2 : 6 < zs.length ∨ (asc zs).length < zs.length
  · rw [if_pos h2] at h1
    omega
  · rw [if_neg h2] at h0
    by_cases hz0 : zs.length = 0
    · exact hz0
    · rw [if_neg hz0] at h0
      omega
/-- A table is set. -/
theorem PrC.setT {w w1 : World} {xb : Nat} {S : Cl} {F : Nat → Prop} {gS : Nat} {cs : Array Value} {vT vV vN vT' : Value} {RR : Nat → List PE} {Fs : Nat → Nat → Prop} {T : Nat → Int} (h : PrC w xb S F gS cs vT vV vN RR Fs T) (hb : Below w.heap.size w w1) (zs : List Int)
    (hrow : w1.ownsRow w.heap.size 5 1 vT' zs.length (zs.map (Value.int .u8))) :
    ∃ F', PrC (w1.setCell ⟨xb, 2, none⟩ vT') xb (backM S zs) F' gS cs vT' vV vN RR Fs T ∧ Stp w (w1.setCell ⟨xb, 2, none⟩ vT') F F' := by
  have h1 := h.below hb
  have hb2 := row_setCell (j := 2) h1.blk vT'
  have ho : Only (fun k => k = xb) w (w1.setCell ⟨xb, 2, none⟩ vT') := (Only.of_below (F := fun k => k = xb) hb).setG
  have hx : w1.heap[xb]? = _ := h1.blk
  obtain ⟨h2, h3⟩ := h.upd ho (fun k hk => .inl hk) (backM S zs) vT' vV vN (by simpa [backM] using hb2) (own_set' (own_zero hrow) h1.blk (by decide) _) (own_set' h1.rV h1.blk (by decide) _) (own_set' h1.rN h1.blk (by decide) _) (fun g hg => .inr (hrow.lt g hg).1) (fun g hg => .inl hg) (fun g hg => .inl hg)
  exact ⟨_, h2, h3⟩

set_option maxRecDepth 100000 in
set_option maxHeartbeats 1600000 in
theorem back_any (xb : Nat) (S : Cl) (F : Nat → Prop) (zs : List Int) (ao : Option Addr) (n cap : Nat) (w : World) (h : PrIs w xb S F) (hl : zs.length = n) (hd : Has w ao zs) (hn : n ≤ 9223372036854775807) (hz : ∀ z ∈ zs, 0 ≤ z ∧ z ≤ 255) :
    Calls Tryz.prog 38 #[.pointer (some ⟨xb, 0, none⟩), .slice ao n cap] w fun e w' => (tE zs = 1 ∧ e = .returned (.int .i64 1) ∧ Below w.heap.size w w') ∨ (tE zs ≠ 1 ∧ e = .returned (.int .i64 0) ∧ ∃ F', PrIs w' xb (backM S (tblOf zs)) F' ∧ Stp w w' F F') := by
  obtain ⟨gS, cs, vT, vV, vN, RR, Fs, h, hr, he⟩ := h
  have HTB := hide (ctable_any ao n cap zs w hl hd hn hz)
  have HH := hide h
  have HE := hide (And.intro hr he)
  have hyb := h.lt
  have HFIN : Hid (∀ w1 v T', Below w.heap.size w w1 → w1.ownsRow w.heap.size 5 1 v T'.length (T'.map (Value.int .u8)) → ∃ F', PrIs (w1.setCell ⟨xb, 2, none⟩ v) xb (backM S T') F' ∧ Stp w (w1.setCell ⟨xb, 2, none⟩ v) F F') := by
    intro w1 v T' hb hrow
    obtain ⟨F', h1, h2⟩ := h.setT hb T' hrow
    exact ⟨F', ⟨gS, cs, v, vV, vN, RR, Fs, h1, hr, he⟩, h2⟩
  have htb := tE_tbl zs
  have ht7 := tE_none zs
  unfold TabPost at HTB
  generalize tE zs = te at *
  have HT := hide (And.intro htb ht7)
  generalize tblOf zs = TO at *
  generalize tbl zs = TL at *
  have cT : w.cell? ⟨xb, 2, none⟩ = some vT := arr_cell h.blk 2
  obtain ⟨ta, tc, hvT⟩ := own_slice h.rT
  rw [hvT] at cT
  have HFZ : Hid (∀ w1, Below w.heap.size w w1 → w1.frozen? ⟨xb, 2, none⟩ = false) := fun w1 hb => arr_frozen (h.below hb).blk 2
  clear h hr he htb ht7
  go_enter Tryz.func38, Tryz.ntmps38
  go_wp2_with fail
  refine HTB.out.mono ?_
  rintro e w1 ⟨hb1, ⟨ht, v, rfl, hrow, hnn⟩ | ⟨ht, rfl⟩⟩
  · obtain ⟨va, vc, rfl⟩ := own_slice hrow
    have HB1 := hide hb1
    have HRW := hide hrow
    have c1 := (hb1.cell (p := ⟨xb, 2, none⟩) hyb).trans cT
    have f1 := HFZ.out w1 hb1
    have hx1 : xb < w1.heap.size := Nat.lt_of_lt_of_le hyb hb1.size
    have HTE := hide ht
    clear hb1 hrow ht hnn HTB
    go_wp2
    go_ret
    obtain ⟨t1, t2⟩ := HT.out.1 HTE.out
    refine .inr ⟨by rw [HTE.out]; omega, rfl, ?_⟩
    rw [t1]
    refine HFIN.out w1 _ TL HB1.out ?_
    rw [t2]
    exact HRW.out
  · have HB1 := hide hb1
    by_cases h1 : te = 1
    · have HTE := hide h1
      subst h1
      clear hb1 ht HTB
      go_wp2
      go_ret
      first
        | exact .inl ⟨HTE.out, rfl, HB1.out⟩
        | exact ⟨rfl, HB1.out⟩
    · have hbe : (te == 1) = false := by simpa using h1
      have c1 := (hb1.cell (p := ⟨xb, 2, none⟩) hyb).trans cT
      have f1 := HFZ.out w1 hb1
      have hx1 : xb < w1.heap.size := Nat.lt_of_lt_of_le hyb hb1.size
      have HTE := hide (And.intro ht h1)
      clear hb1 ht HTB h1
      go_wp2
      go_ret
      refine .inr ⟨HTE.out.2, rfl, ?_⟩
      rw [HT.out.2 HTE.out.1 HTE.out.2]
      exact HFIN.out w1 _ [] HB1.out (World.ownsRow_nil _ _ _ _)

end Go.Proofs.YtajphdppmdoalaaGreat

namespace Go.Proofs.YtajphdppmdoalaaGreat
open Go.RowKit
set_option linter.unusedVariables false

theorem Tryz.infoEn : (Tryz.prog.info? 128).map (fun i => (i.zero, i.size, i.bytes)) = some (some (.agg #[.int .i64 0, .int .u16 0, .int .u16 0, .int .u8 0, .int .u16 0, .int .u8 0, .bool false, .int .u16 0, .int .u16 0, .slice none 0 0, .int .i64 0, .slice none 0 0, .bool false, .int .u8 0]), 14, 88) := by kernel_rfl
theorem Tryz.infoSn : (Tryz.prog.info? 110).map (fun i => (i.zero, i.size, i.bytes)) = some (some (.agg #[.int .i64 0, .int .i64 0, .int .i64 0, .int .u16 0, .int .u16 0, .int .u8 0, .int .u16 0, .int .u8 0, .bool false, .int .u16 0, .int .u16 0, .slice none 0 0]), 12, 64) := by kernel_rfl

theorem heap_new1 (w : World) (a b : Obj) : ((w.alloc a).alloc b).heap[w.heap.size]? = some a := (Below.heap_alloc _ _ _ (by simp)).trans (heap_alloc_new _ _)
theorem heap_new2 (w : World) (a b : Obj) : ((w.alloc a).alloc b).heap[w.heap.size + 1]? = some b := by
  have := heap_alloc_new (w.alloc a) b
  rwa [World.size_alloc] at this

theorem Only.setB {w a : World} {b j : Nat} (h : Only (fun q => q = b) a w) (u : Value) : Only (fun q => q = b) a (w.setCell ⟨b, j, none⟩ u) := h.setCell (fun _ => rfl) u
theorem store3 {w : World} {b : Nat} {t : TypeId} {z0 z1 z2 : Value} (h : w.heap[b]? = some (.cells #[z0, z1, z2] t (0, 0))) (v0 v1 v2 : Value) : (((w.setCell ⟨b, 0, none⟩ (v0)).setCell ⟨b, 1, none⟩ (v1)).setCell ⟨b, 2, none⟩ (v2)).heap[b]? = some (.cells #[v0, v1, v2] t (0, 0)) ∧ Only (fun q => q = b) w (((w.setCell ⟨b, 0, none⟩ (v0)).setCell ⟨b, 1, none⟩ (v1)).setCell ⟨b, 2, none⟩ (v2)) := by
  refine ⟨?_, ((((Only.refl _ _).setB _).setB _).setB _)⟩
  have := (row_setCell (j := 2) (row_setCell (j := 1) (row_setCell (j := 0) h v0) v1) v2)
  simpa using this
/-- A list without its i-th. -/
def goneL {α : Type} (l : List α) (i : Nat) : List α := l.take i ++ l.drop (i + 1)
theorem goneL_step {α : Type} (l : List α) (i j : Nat) (q : α) (h : l[j]? = some q) : goneL (l.take (j + 1)) i = if j = i then goneL (l.take j) i else goneL (l.take j) i ++ [q] := by
  have hj : j < l.length := (List.getElem?_eq_some_iff.1 h).1
  have hl : (l.take j).length = j := by rw [List.length_take]; omega
  rw [take_snoc l j q h]
  unfold goneL
  by_cases h1 : j < i
  · have e1 : (l.take j ++ [q]).take i = l.take j ++ [q] := List.take_of_length_le (by rw [List.length_append, hl, List.length_singleton]; omega)
    have e2 : (l.take j ++ [q]).drop (i + 1) = [] := List.drop_eq_nil_of_le (by rw [List.length_append, hl, List.length_singleton]; omega)
    have e3 : (l.take j).take i = l.take j := List.take_of_length_le (by omega)
    have e4 : (l.take j).drop (i + 1) = [] := List.drop_eq_nil_of_le (by omega)
    rw [if_neg (by omega), e1, e2, e3, e4, List.append_nil, List.append_nil]
  · by_cases h2 : j = i
    · subst h2
      rw [if_pos rfl, List.take_append_of_le_length (by omega), List.drop_eq_nil_of_le (by rw [List.length_append, hl, List.length_singleton]; omega), List.drop_eq_nil_of_le (by omega)]
    · rw [if_neg h2, List.take_append_of_le_length (by omega), List.drop_append_of_le_length (by omega), List.append_assoc]
theorem goneL_map {α β : Type} (f : α → β) (l : List α) (i : Nat) : (goneL l i).map f = goneL (l.map f) i := by
  unfold goneL
  rw [List.map_append, List.map_take, List.map_drop]
theorem goneL_mem {α : Type} (l : List α) (i : Nat) (x : α) (h : x ∈ goneL l i) : x ∈ l := mem_gone l i x h
theorem goneL_len {α : Type} (l : List α) (i j : Nat) : (goneL (l.take j) i).length ≤ j := by
  unfold goneL
  rw [List.length_append, List.length_take, List.length_drop, List.length_take]
  omega

theorem RE.one (r : RE) (h1 : r.dv.oneCell' = true) (h2 : r.pv.oneCell' = true) : ∀ u ∈ r.cells, u.oneCell' = true := by
  intro u hu
  simp only [RE.cells, List.mem_cons, List.not_mem_nil, or_false] at hu
  rcases hu with rfl | rfl | rfl | rfl | rfl | rfl | rfl | rfl | rfl | rfl | rfl | rfl | rfl | rfl
  all_goals first | exact h1 | exact h2 | rfl
theorem RN.one (r : RN) (h1 : r.dv.oneCell' = true) : ∀ u ∈ r.cells, u.oneCell' = true := by
  intro u hu
  simp only [RN.cells, List.mem_cons, List.not_mem_nil, or_false] at hu
  rcases hu with rfl | rfl | rfl | rfl | rfl | rfl | rfl | rfl | rfl | rfl | rfl | rfl
  all_goals first | exact h1 | rfl

set_option maxRecDepth 100000 in
set_option maxHeartbeats 1600000 in
theorem rgone_any (yb at' : Nat) (S : Cl) (F : Nat → Prop) (vS vE vN vV : Value) (ES : List RE) (NS : List RN) (w : World) (h : RefIs w yb S F vS vE vN vV ES NS) (hn : ES.length ≤ 1000) (hat : at' < ES.length) :
    Calls Tryz.prog 98 #[.pointer (some ⟨yb, 0, none⟩), .int .i64 at'] w fun e w' => e = .returned (.tuple #[]) ∧ ∃ F' vE', RefIs w' yb { S with ents := goneM S.ents at' } F' vS vE' vN vV (goneL ES at') NS ∧ Stp w w' F F' := by
  obtain ⟨i0, hi, hz0, hz1, hz2⟩ := info_parts Tryz.infoEn
  have HI := hide (And.intro hi (And.intro hz0 (And.intro hz1 hz2)))
  clear hi hz0 hz1 hz2
  have HH := hide h
  have hyb := h.lt
  obtain ⟨g, cap, hvE⟩ := own_some h.rE (by omega)
  have hg := (h.rE.lt g (by rw [hvE]; rfl)).2
  clear h
  go_enter Tryz.func98, Tryz.ntmps98
  go_wp2_with fail
  go_loopw [5, 4] (fun i l wr => ∃ j : Nat, j ≤ ES.length ∧ i = .int .i64 j ∧ Hid (wr.ownsRow w.heap.size 128 14 l (goneL (ES.take j) at').length ((goneL (ES.take j) at').flatMap RE.cells)) ∧ Hid (Below w.heap.size w wr)) (fun i _ _ => ES.length - (intOf i).toNat)
  case atStart => exact ⟨0, Nat.zero_le _, rfl, by simp [goneL]; exact World.ownsRow_nil _ _ _ _, Below.refl _ _⟩
  case round =>
    obtain ⟨j, hj, rfl, HO, HB⟩ := hrel
    have HR := hide (HH.out.below HB.out)
    have cN : wr.cell? ⟨yb, 5, none⟩ = some (.slice (some ⟨g, 0, none⟩) ES.length cap) := by rw [← hvE]; exact arr_cell HR.out.blk 5
    have cF : ∀ j, wr.frozen? ⟨yb, j, none⟩ = false := fun j => arr_frozen HR.out.blk j
    have hyr : yb < wr.heap.size := Nat.lt_of_lt_of_le hyb HB.out.size
    have hgr : g < wr.heap.size := Nat.lt_of_lt_of_le hg HB.out.size
    have hsz : w.heap.size ≤ wr.heap.size := HB.out.size
    by_cases hlt : j < ES.length
    · obtain ⟨r, hr⟩ : ∃ r, ES[j]? = some r := ⟨_, List.getElem?_eq_getElem hlt⟩
      have HT := hide (goneL_step ES at' j r hr)
      by_cases hja : j = at'
      · have hne : (((j : Int)) != ((at' : Int))) = false := by simp [hja]
        rw [if_pos hja] at HT
        have hja' := hide hja
        clear hja hr
        go_wp2
        go_roundw
        case rel => exact ⟨j + 1, by omega, by go_num, by rw [HT.out]; exact HO.out, HB.out⟩
        case measure => simp [intOf]; omega
      · have hne : (((j : Int)) != ((at' : Int))) = true := by simp; omega
        rw [if_neg hja] at HT
        have hN := HR.out.rE
        rw [hvE] at hN
        have c0 : wr.cell? ⟨g, j * 14, none⟩ = _ := row_get RE.cells RE.len hN j r hr 0 _ rfl
        have c1 := row_get RE.cells RE.len hN j r hr 1 _ rfl
        have c2 := row_get RE.cells RE.len hN j r hr 2 _ rfl
        have c3 := row_get RE.cells RE.len hN j r hr 3 _ rfl
        have c4 := row_get RE.cells RE.len hN j r hr 4 _ rfl
        have c5 := row_get RE.cells RE.len hN j r hr 5 _ rfl
        have c6 := row_get RE.cells RE.len hN j r hr 6 _ rfl
        have c7 := row_get RE.cells RE.len hN j r hr 7 _ rfl
        have c8 := row_get RE.cells RE.len hN j r hr 8 _ rfl
        have c9 := row_get RE.cells RE.len hN j r hr 9 _ rfl
        have c10 := row_get RE.cells RE.len hN j r hr 10 _ rfl
        have c11 := row_get RE.cells RE.len hN j r hr 11 _ rfl
        have c12 := row_get RE.cells RE.len hN j r hr 12 _ rfl
        have c13 := row_get RE.cells RE.len hN j r hr 13 _ rfl
        have hraw : r.dv.oneCell' = true := by
          obtain ⟨ao, n, c, hv⟩ := HH.out.raw r (List.mem_of_getElem? hr)
          rw [hv]; rfl
        have hpv : r.pv.oneCell' = true := by
          obtain ⟨ao, c, hv⟩ := own_slice (HH.out.rP r (List.mem_of_getElem? hr))
          rw [hv]; rfl
        have hlen := goneL_len ES at' j
        obtain ⟨hi, hz0, hz1, hz2⟩ := HI.out
        clear hN hr
        go_wp2_with (at_builtin; refine wpList_append_own _ rfl (.tmp 18) (.tmp 26) 70 rfl w.heap.size 128 i0 _ 14 88 Tryz.underlying70 hi hz0 hz1 hz2 rfl (by decide) _ _ _ rfl (HO.out.alloc _) ⟨wr.heap.size, 0, none⟩ 1 1 r.cells rfl rfl (cells_new _ _ _) (RE.one r hraw hpv) (by unfold maxLen; omega) (by omega) (by simp; omega) ?_)
        intro v2 w2 hown hgrow hiff
        have HO2 : Hid (w2.ownsRow w.heap.size 128 14 v2 (goneL (ES.take (j + 1)) at').length ((goneL (ES.take (j + 1)) at').flatMap RE.cells)) := by
          show World.ownsRow _ _ _ _ _ _ _
          rw [HT.out, List.flatMap_append, List.length_append]
          simpa using hown
        have HB2 : Hid (Below w.heap.size w w2) := (HB.out.alloc hsz _).grown hgrow (by simp; omega) (fun k hk => (HO.out.lt k hk).1)
        clear hown hgrow hiff c0 c1 c2 c3 c4 c5 c6 c7 c8 c9 c10 c11 c12 c13
        go_wp2
        go_roundw
        case rel => exact ⟨j + 1, by omega, by go_num, HO2.out, HB2.out⟩
        case measure => simp [intOf]; omega
    · obtain rfl : j = ES.length := by omega
      rw [List.take_length] at HO
      have hE := HH.out.setE (Only.of_below HB.out) (goneL ES at') _ (own_zero HO.out) (fun r hr => HH.out.raw r (goneL_mem _ _ _ hr)) (fun r hr => .inl (goneL_mem _ _ _ hr)) (fun r hr q hq => .inl (HH.out.fP r (goneL_mem _ _ _ hr) q hq)) (fun q hq => .inr (HO.out.lt q hq).1)
      rw [goneL_map, HH.out.hes] at hE
      obtain ⟨ao, c, rfl⟩ := own_slice HO.out
      have HE := hide hE
      clear hE
      go_wp2
      go_end0
      exact ⟨rfl, _, _, HE.out⟩

end Go.Proofs.YtajphdppmdoalaaGreat

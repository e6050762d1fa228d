import Derived.Test.YtajphdppmdoalabZOItoOK
import Derived.Laws.MakeOwn
import Derived.Test.YtajphdppmdoalabZJ4toB
import Derived.Test.YtajphdppmdoalabZJ1toLO
import Derived.Test.YtajphdppmdoalabZKtoT1
import Derived.Deep.RegionHeld3
namespace Go.Proofs.Ytajphdppmdoalab
open Go.RowKit
set_option linter.unusedVariables false

theorem Try.infoSt : (Try.prog.info? 79).map (fun i => (i.zero, i.size, i.bytes)) = some (some (.agg #[.slice none 0 0]), 1, 24) := by kernel_rfl
theorem made_store (n : Nat) : madeCells (Value.agg #[.slice none 0 0]).cells n = Array.replicate n (.slice none 0 0) := by
  apply Array.ext
  · simp [madeCells]
  · intro i h1 h2
    simp [madeCells, Value.cells, Nat.mod_one]

set_option maxRecDepth 100000 in
set_option maxHeartbeats 1600000 in
theorem new_ok (N : Nat) (life : Int) (w : World) (hN1 : 1 ≤ N) (hN5 : N ≤ 5) (hl1 : 1 ≤ life) (hl2 : life ≤ 20) :
    Calls Try.prog 19 #[.int .i64 N, .int .i64 life] w fun e w' => ∃ xb F, e = .returned (.tuple #[.pointer (some ⟨xb, 0, none⟩), .int .i64 0]) ∧ PrIs w' xb (Cl.new N life) F ∧ (∀ k, F k → w.heap.size ≤ k) ∧ Below w.heap.size w w' := by
  obtain ⟨i0, hi, hq0, hq1, hq2⟩ := info_parts Try.infoSt
  have hmk : ∀ w : World, (Instr.makeSlice 64 (.int .i64 (N : Int)) (.int .i64 (N : Int))).run Try.prog w = .ok (.slice (some ⟨w.heap.size, 0, none⟩) N N) (w.alloc (.cells (Array.replicate N (.slice none 0 0)) 79)) := by
    intro w
    have h := run_make (P := Try.prog) w 64 79 i0 _ Try.underlying64 hi hq0 .i64 .i64 (N : Int) (N : Int) (by omega) (Int.le_refl _) (by rw [hq2]; omega) (by omega)
    rw [Int.toNat_natCast, hq1, Nat.mul_one, made_store] at h
    exact h
  have hNi1 : (1 : Int) ≤ (N : Int) := by omega
  have hNi5 : (N : Int) ≤ 5 := by omega
  generalize hCS : Array.replicate N (Value.slice none 0 0) = cs at *
  have HCS := hide hCS
  clear hCS hi hq0 hq1 hq2
  go_enter Try.func19, Try.ntmps19
  go_wp2
  go_ret2
  have hsz : cs.size = N := by rw [← HCS.out]; simp
  have hge : ∀ o, o < N → cs[o]? = some (.slice none 0 0) := by intro o ho; rw [← HCS.out]; simp [ho]
  have hB0 : ((w.alloc (.cells cs 79)).alloc (.cells #[.slice (some ⟨w.heap.size, 0, none⟩) N N, .int .i64 life, .slice none 0 0, .int .i64 0, .slice none 0 0, .slice none 0 0] 67)).heap[w.heap.size]? = some (.cells cs 79 (0, 0)) := (Below.heap_alloc _ _ _ (by simp)).trans (heap_alloc_new _ _)
  have hB1 : ((w.alloc (.cells cs 79)).alloc (.cells #[.slice (some ⟨w.heap.size, 0, none⟩) N N, .int .i64 life, .slice none 0 0, .int .i64 0, .slice none 0 0, .slice none 0 0] 67)).heap[w.heap.size + 1]? = some (.cells #[.slice (some ⟨w.heap.size, 0, none⟩) N N, .int .i64 life, .slice none 0 0, .int .i64 0, .slice none 0 0, .slice none 0 0] 67 (0, 0)) := by
    have := heap_alloc_new (w.alloc (.cells cs 79)) (.cells #[.slice (some ⟨w.heap.size, 0, none⟩) N N, .int .i64 life, .slice none 0 0, .int .i64 0, .slice none 0 0, .slice none 0 0] 67)
    rwa [World.size_alloc] at this
  refine ⟨w.heap.size + 1, fun k => k = w.heap.size ∨ k = w.heap.size + 1, rfl, ⟨w.heap.size, cs, .slice none 0 0, .slice none 0 0, .slice none 0 0, fun _ => [], fun _ _ => False, ⟨?_, hB0, ?_, World.ownsRow_nil _ _ _ _, World.ownsRow_nil _ _ _ _, World.ownsRow_nil _ _ _ _, fun _ _ _ _ hh => hh.elim, fun _ _ hh => hh.elim, .inr rfl, .inl rfl, fun g hg => by simp [Value.ownBlock] at hg, fun g hg => by simp [Value.ownBlock] at hg, fun g hg => by simp [Value.ownBlock] at hg, ?_⟩, ?_, ?_⟩, ?_, ?_⟩
  · rw [hsz]
    exact hB1
  · intro o ho
    rw [hsz] at ho
    exact ⟨.slice none 0 0, hge o ho, ⟨World.ownsRow_nil _ _ _ _, by simp, by simp, List.Pairwise.nil, List.Pairwise.nil, fun g hg => by simp [Value.ownBlock] at hg, by simp, by simp, fun _ hh => hh.elim⟩⟩
  · intro k hk
    simp only [World.size_alloc]
    omega
  · rw [hsz]
    rfl
  · intro o _
    rfl
  · intro k hk
    omega
  · exact ((Below.refl _ _).alloc (Nat.le_refl _) _).alloc (by simp) _

set_option maxRecDepth 100000 in
set_option maxHeartbeats 1600000 in
theorem new_bad (r life : Int) (w : World) (h : r < 1 ∨ 5 < r ∨ life < 1 ∨ 20 < life) :
    Calls Try.prog 19 #[.int .i64 r, .int .i64 life] w fun e w' => e = .returned (.tuple #[.pointer none, .int .i64 1]) ∧ w' = w := by
  have hd : (decide (r < 1) || decide (5 < r) || decide (life < 1) || decide (20 < life)) = true := by
    simp only [Bool.or_eq_true, decide_eq_true_eq]
    omega
  by_cases h1 : r < 1
  · go_enter Try.func19, Try.ntmps19
    go_wp2
    go_ret2
    exact ⟨rfl, rfl⟩
  · by_cases h2 : 5 < r
    · go_enter Try.func19, Try.ntmps19
      go_wp2
      go_ret2
      exact ⟨rfl, rfl⟩
    · by_cases h3 : life < 1
      · go_enter Try.func19, Try.ntmps19
        go_wp2
        go_ret2
        exact ⟨rfl, rfl⟩
      · have h4 : 20 < life := by omega
        go_enter Try.func19, Try.ntmps19
        go_wp2
        go_ret2
        exact ⟨rfl, rfl⟩

theorem tE_tbl (zs : List Int) (h0 : tE zs = 0) : tblOf zs = tbl zs ∧ (tbl zs).length = 31 := by
  refine ⟨?_, tbl_len zs⟩
  unfold tblOf
  rw [if_neg]
  intro hz0
  unfold tE at h0
  split at h0
  · omega
  · first
    | omega
    | (split at h0 <;> omega)
theorem tE_none (zs : List Int) (h0 : tE zs ≠ 0) (h1 : tE zs ≠ 1) : tblOf zs = [] := by
  unfold tblOf
  rw [if_pos]
  unfold tE at h0 h1
  by_cases h2 : 6 < zs.length ∨ (asc zs).length < zs.length
  · rw [if_pos h2] at h1
    omega
  · rw [if_neg h2] at h0
    by_cases hz0 : zs.length = 0
    · exact hz0
    · rw [if_neg hz0] at h0
      omega
/-- A table is set. -/
theorem PrC.setT {w w1 : World} {xb : Nat} {S : Cl} {F : Nat → Prop} {gS : Nat} {cs : Array Value} {vT vV vN vT' : Value} {RR : Nat → List PE} {Fs : Nat → Nat → Prop} {T : Nat → Int} (h : PrC w xb S F gS cs vT vV vN RR Fs T) (hb : Below w.heap.size w w1) (zs : List Int)
    (hrow : w1.ownsRow w.heap.size 5 1 vT' zs.length (zs.map (Value.int .u8))) :
    ∃ F', PrC (w1.setCell ⟨xb, 2, none⟩ vT') xb (backM S zs) F' gS cs vT' vV vN RR Fs T ∧ Stp w (w1.setCell ⟨xb, 2, none⟩ vT') F F' := by
  have h1 := h.below hb
  have hb2 := row_setCell (j := 2) h1.blk vT'
  have ho : Only (fun k => k = xb) w (w1.setCell ⟨xb, 2, none⟩ vT') := (Only.of_below (F := fun k => k = xb) hb).setG
  have hx : w1.heap[xb]? = _ := h1.blk
  obtain ⟨h2, h3⟩ := h.upd ho (fun k hk => .inl hk) (backM S zs) vT' vV vN (by simpa [backM] using hb2) (own_set' (own_zero hrow) h1.blk (by decide) _) (own_set' h1.rV h1.blk (by decide) _) (own_set' h1.rN h1.blk (by decide) _) (fun g hg => .inr (hrow.lt g hg).1) (fun g hg => .inl hg) (fun g hg => .inl hg)
  exact ⟨_, h2, h3⟩

set_option maxRecDepth 100000 in
set_option maxHeartbeats 1600000 in
theorem back_any (xb : Nat) (S : Cl) (F : Nat → Prop) (zs : List Int) (ao : Option Addr) (n cap : Nat) (w : World) (h : PrIs w xb S F) (hl : zs.length = n) (hd : Has w ao zs) (hn : n ≤ 9223372036854775807) (hz : ∀ z ∈ zs, 0 ≤ z ∧ z ≤ 255) :
    Calls Try.prog 9 #[.pointer (some ⟨xb, 0, none⟩), .slice ao n cap] w fun e w' => (tE zs = 1 ∧ e = .returned (.int .i64 1) ∧ Below w.heap.size w w') ∨ (tE zs ≠ 1 ∧ e = .returned (.int .i64 0) ∧ ∃ F', PrIs w' xb (backM S (tblOf zs)) F' ∧ Stp w w' F F') := by
  obtain ⟨gS, cs, vT, vV, vN, RR, Fs, h, hr, he⟩ := h
  have HTB := hide (ctable_any ao n cap zs w hl hd hn hz)
  have HH := hide h
  have HE := hide (And.intro hr he)
  have hyb := h.lt
  have HFIN : Hid (∀ w1 v T', Below w.heap.size w w1 → w1.ownsRow w.heap.size 5 1 v T'.length (T'.map (Value.int .u8)) → ∃ F', PrIs (w1.setCell ⟨xb, 2, none⟩ v) xb (backM S T') F' ∧ Stp w (w1.setCell ⟨xb, 2, none⟩ v) F F') := by
    intro w1 v T' hb hrow
    obtain ⟨F', h1, h2⟩ := h.setT hb T' hrow
    exact ⟨F', ⟨gS, cs, v, vV, vN, RR, Fs, h1, hr, he⟩, h2⟩
  have htb := tE_tbl zs
  have ht7 := tE_none zs
  unfold TabPost at HTB
  generalize tE zs = te at *
  have HT := hide (And.intro htb ht7)
  generalize tblOf zs = TO at *
  generalize tbl zs = TL at *
  have cT : w.cell? ⟨xb, 2, none⟩ = some vT := arr_cell h.blk 2
  obtain ⟨ta, tc, hvT⟩ := own_slice h.rT
  rw [hvT] at cT
  have HFZ : Hid (∀ w1, Below w.heap.size w w1 → w1.frozen? ⟨xb, 2, none⟩ = false) := fun w1 hb => arr_frozen (h.below hb).blk 2
  clear h hr he htb ht7
  go_enter Try.func9, Try.ntmps9
  go_wp2_with fail
  refine HTB.out.mono ?_
  rintro e w1 ⟨hb1, ⟨ht, v, rfl, hrow, hnn⟩ | ⟨ht, rfl⟩⟩
  · obtain ⟨va, vc, rfl⟩ := own_slice hrow
    have HB1 := hide hb1
    have HRW := hide hrow
    have c1 := (hb1.cell (p := ⟨xb, 2, none⟩) hyb).trans cT
    have f1 := HFZ.out w1 hb1
    have hx1 : xb < w1.heap.size := Nat.lt_of_lt_of_le hyb hb1.size
    have HTE := hide ht
    clear hb1 hrow ht hnn HTB
    go_wp2
    go_ret
    obtain ⟨t1, t2⟩ := HT.out.1 HTE.out
    refine .inr ⟨by rw [HTE.out]; omega, rfl, ?_⟩
    rw [t1]
    refine HFIN.out w1 _ TL HB1.out ?_
    rw [t2]
    exact HRW.out
  · have HB1 := hide hb1
    by_cases h1 : te = 1
    · have HTE := hide h1
      subst h1
      clear hb1 ht HTB
      go_wp2
      go_ret
      first
        | exact .inl ⟨HTE.out, rfl, HB1.out⟩
        | exact ⟨rfl, HB1.out⟩
    · have hbe : (te == 1) = false := by simpa using h1
      have c1 := (hb1.cell (p := ⟨xb, 2, none⟩) hyb).trans cT
      have f1 := HFZ.out w1 hb1
      have hx1 : xb < w1.heap.size := Nat.lt_of_lt_of_le hyb hb1.size
      have HTE := hide (And.intro ht h1)
      clear hb1 ht HTB h1
      go_wp2
      go_ret
      refine .inr ⟨HTE.out.2, rfl, ?_⟩
      rw [HT.out.2 HTE.out.1 HTE.out.2]
      exact HFIN.out w1 _ [] HB1.out (World.ownsRow_nil _ _ _ _)

end Go.Proofs.Ytajphdppmdoalab

namespace Go.Proofs.Ytajphdppmdoalab
open Go.RowKit
set_option linter.unusedVariables false

theorem tdiv_bd (a n : Int) (hn : 1 ≤ n) (hc : -9223372036854775808 ≤ a) (hc2 : a ≤ 9223372036854775807) : -9223372036854775808 ≤ a.tdiv n ∧ a.tdiv n ≤ 9223372036854775807 := by
  by_cases h : 0 ≤ a
  · rw [Int.tdiv_eq_ediv_of_nonneg h]
    have h1 := Int.ediv_nonneg h (show 0 ≤ n by omega)
    have h2 := Int.ediv_le_self n h
    omega
  · obtain ⟨b, rfl⟩ : ∃ b, a = -b := ⟨-a, by omega⟩
    rw [Int.neg_tdiv, Int.tdiv_eq_ediv_of_nonneg (by omega)]
    have h1 := Int.ediv_nonneg (show 0 ≤ b by omega) (show 0 ≤ n by omega)
    have h2 := Int.ediv_le_self n (show 0 ≤ b by omega)
    omega

set_option maxRecDepth 100000 in
set_option maxHeartbeats 800000 in
theorem some_any (raw : Int) (w : World) (hc : -9223372036854775808 ≤ raw) (hc2 : raw ≤ 9223372036854775807) :
    Calls Try.prog 5 #[.int .i64 raw] w fun e w' => ∃ (l : List Int) (v : Value), e = .returned v ∧ w'.ownsRow w.heap.size 5 1 v l.length (l.map (Value.int .u8)) ∧ nd l = true ∧ 1 ≤ l.length ∧ l.length ≤ 6 ∧ (∀ z ∈ l, 0 ≤ z ∧ z ≤ 255) ∧ Below w.heap.size w w' := by
  obtain ⟨i5, hi, hz5, hz6, hz7⟩ := info_parts info_u8
  go_enter Try.func5, Try.ntmps5
  go_wp2_with fail
  refine (pick_any raw 6 w hc hc2 (by decide) (by decide)).mono ?_
  rintro e w1 ⟨rfl, rfl⟩
  have hp1 := pk_bd raw 6 (by decide)
  generalize pk raw 6 = p1 at *
  have hq1 := tdiv_bd raw 7 (by decide) hc hc2
  have hq2 := tdiv_bd raw 1800 (by decide) hc hc2
  go_wp2_with fail
  refine (pick_any _ 256 w1 hq1.1 hq1.2 (by decide) (by decide)).mono ?_
  rintro e w2 ⟨rfl, rfl⟩
  have hp2 := pk_bd (raw.tdiv 7) 256 (by decide)
  generalize pk (raw.tdiv 7) 256 = p2 at *
  go_wp2_with fail
  refine (pick_any _ 20 w2 hq2.1 hq2.2 (by decide) (by decide)).mono ?_
  rintro e w3 ⟨rfl, rfl⟩
  have hp3 := pk_bd (raw.tdiv 1800) 20 (by decide)
  generalize pk (raw.tdiv 1800) 20 = p3 at *
  obtain ⟨n, hn⟩ : ∃ n : Nat, (n : Int) = 1 + p1 := ⟨(1 + p1).toNat, by omega⟩
  obtain ⟨s, hs⟩ : ∃ s : Int, s = 1 + 2 * p3 := ⟨_, rfl⟩
  have hn6 : n ≤ 6 := by omega
  have hs39 : 1 ≤ s ∧ s ≤ 39 := by omega
  have hnd := hide (smL_nd p2 s n hs39.1 hs39.2 hn6)
  go_wp2_with fail
  rw [← hn, ← hs]
  have hn1 : 1 ≤ n := by omega
  clear hn hs
  go_loopw [6, 7] (fun v i wr => ∃ k : Nat, k ≤ n ∧ i = .int .i64 k ∧ Hid (wr.ownsRow w3.heap.size 5 1 v k ((smL p2 s k).map (Value.int .u8))) ∧ Hid (Below w3.heap.size w3 wr))
    (fun _ i _ => n - (intOf i).toNat)
  case atStart => exact ⟨0, Nat.zero_le _, rfl, World.ownsRow_nil _ _ _ _, Below.refl _ _⟩
  case round =>
    obtain ⟨k, hk, rfl, HO, HB⟩ := hrel
    have hsz : w3.heap.size ≤ wr.heap.size := HB.out.size
    by_cases hlt : k < n
    · have HA := hide (show smL p2 s (k + 1) = smL p2 s k ++ [(p2 + k * s) % 256] from rfl)
      have hks : 0 ≤ (k : Int) * s ∧ (k : Int) * s ≤ 234 := by
        constructor
        · exact Int.mul_nonneg (by omega) (by omega)
        · have h6 := Int.mul_le_mul_of_nonneg_right (show (k : Int) ≤ 6 by omega) (show 0 ≤ s by omega)
          omega
      go_wp2_with (at_builtin; refine wpList_append_own _ rfl (.tmp 24) (.tmp 31) 26 rfl w3.heap.size 5 i5 (.int .u8 0) 1 1 Try.underlying26 hi hz5 hz6 hz7 rfl (by decide) _ _ _ rfl (HO.out.alloc _) ⟨wr.heap.size, 0, none⟩ 1 1 [_] rfl rfl (cell_one_new _ _ _) (by simp [Value.oneCell']) (by unfold maxLen; omega) (by omega) (by simp; omega) ?_)
      intro v5 w5 hown hgrow hiff
      have HO5 := hide hown
      have HB5 : Hid (Below w3.heap.size w3 w5) := (HB.out.alloc hsz _).grown hgrow (by simp; omega) (fun q hq => by have := (HO.out.lt q hq).1; omega)
      clear hown hiff hgrow
      go_wp2
      go_roundw
      case rel => exact ⟨k + 1, by omega, by go_num, by rw [HA.out]; simpa [Hid] using HO5, HB5⟩
      case measure => simp [intOf]; omega
    · obtain rfl : k = n := by omega
      go_wp2
      go_ret
      refine ⟨smL p2 s k, _, rfl, ?_, hnd.out, ?_, ?_, smL_bd _ _ _, HB.out⟩
      · rw [smL_len]; exact HO.out
      · rw [smL_len]; omega
      · rw [smL_len]; omega
end Go.Proofs.Ytajphdppmdoalab

namespace Go.Proofs.Ytajphdppmdoalab
open Go.RowKit
set_option linter.unusedVariables false

theorem packet_any (src dst id proto sport dport off : Int) (n : Nat) (more : Bool) (fill : Int) (w : World) (hoff0 : 0 ≤ off) (hoff : off ≤ 15) (hn : n ≤ 32) :
    Calls Try.prog 21 #[.agg #[.int .u16 src, .int .u16 dst, .int .u16 id, .int .u8 proto, .int .u16 sport, .int .u16 dport], .int .i64 off, .int .i64 n, .bool more, .int .i64 fill] w fun e w' => ∃ ao cap, e = .returned (.agg #[.int .u16 src, .int .u16 dst, .int .u8 proto, .int .u16 id, .int .u8 off, .bool more, .int .u16 (if off = 0 then sport else 0), .int .u16 (if off = 0 then dport else 0), .slice ao n cap]) ∧ Has w' ao (fl fill n) ∧ (ao = none → cap = 0) ∧ Below w.heap.size w w' := by
  by_cases h0 : off = 0
  · subst h0
    refine (packet_0 src dst id proto sport dport n more fill w hn).mono ?_
    rintro e w' ⟨v, rfl, hrow, hb⟩
    obtain ⟨ao, cv, rfl, h1, h2, h3, h4, h5⟩ := owns_any hrow
    exact ⟨ao, cv, rfl, h1, h5, hb⟩
  · refine (packet_1 src dst id proto sport dport off n more fill w hoff0 hoff (by simpa using h0) hn).mono ?_
    rintro e w' ⟨v, rfl, hrow, hb⟩
    obtain ⟨ao, cv, rfl, h1, h2, h3, h4, h5⟩ := owns_any hrow
    exact ⟨ao, cv, by rw [if_neg h0, if_neg h0], h1, h5, hb⟩

theorem pkL_len (src dst proto id off : Int) (more : Bool) (sport dport : Int) (zs : List Int) (h : zs.length ≤ 32) : 12 ≤ (pkL src dst proto id off more sport dport zs).length ∧ (pkL src dst proto id off more sport dport zs).length ≤ 48 := by
  have h1 : (hdL src dst proto id off more zs.length).length = 12 := rfl
  have h2 : (ptL off sport dport).length ≤ 4 := by unfold ptL; split <;> simp
  rw [pkL, List.length_append, List.length_append, h1]
  omega
theorem packet_z (src dst id proto sport dport : Int) (n : Nat) (more : Bool) (fill : Int) (w : World) (hn : n ≤ 32) :
    Calls Try.prog 21 #[.agg #[.int .u16 src, .int .u16 dst, .int .u16 id, .int .u8 proto, .int .u16 sport, .int .u16 dport], .int .i64 0, .int .i64 n, .bool more, .int .i64 fill] w fun e w' => ∃ ao cap, e = .returned (.agg #[.int .u16 src, .int .u16 dst, .int .u8 proto, .int .u16 id, .int .u8 0, .bool more, .int .u16 sport, .int .u16 dport, .slice ao n cap]) ∧ Has w' ao (fl fill n) ∧ (ao = none → cap = 0) ∧ Below w.heap.size w w' := by
  refine (packet_0 src dst id proto sport dport n more fill w hn).mono ?_
  rintro e w' ⟨v, rfl, hrow, hb⟩
  obtain ⟨ao, cv, rfl, h1, h2, h3, h4, h5⟩ := owns_any hrow
  exact ⟨ao, cv, rfl, h1, h5, hb⟩
theorem packet_nz (src dst id proto sport dport off : Int) (n : Nat) (more : Bool) (fill : Int) (w : World) (hoff0 : 0 ≤ off) (hoff : off ≤ 15) (h0 : off ≠ 0) (hn : n ≤ 32) :
    Calls Try.prog 21 #[.agg #[.int .u16 src, .int .u16 dst, .int .u16 id, .int .u8 proto, .int .u16 sport, .int .u16 dport], .int .i64 off, .int .i64 n, .bool more, .int .i64 fill] w fun e w' => ∃ ao cap, e = .returned (.agg #[.int .u16 src, .int .u16 dst, .int .u8 proto, .int .u16 id, .int .u8 off, .bool more, .int .u16 0, .int .u16 0, .slice ao n cap]) ∧ Has w' ao (fl fill n) ∧ (ao = none → cap = 0) ∧ Below w.heap.size w w' := by
  refine (packet_1 src dst id proto sport dport off n more fill w hoff0 hoff (by simpa using h0) hn).mono ?_
  rintro e w' ⟨v, rfl, hrow, hb⟩
  obtain ⟨ao, cv, rfl, h1, h2, h3, h4, h5⟩ := owns_any hrow
  exact ⟨ao, cv, rfl, h1, h5, hb⟩

set_option maxRecDepth 100000 in
set_option maxHeartbeats 1600000 in
theorem begun_any (N : Nat) (life : Int) (zs : List Int) (ao : Option Addr) (n cap : Nat) (w : World) (hN1 : 1 ≤ N) (hN5 : N ≤ 5) (hl1 : 1 ≤ life) (hl2 : life ≤ 20) (hl : zs.length = n) (hd : Has w ao zs) (hn : n ≤ 6) (hz : ∀ z ∈ zs, 0 ≤ z ∧ z ≤ 255) (ht : tE zs ≠ 1) :
    Calls Try.prog 6 #[.int .i64 N, .int .i64 life, .slice ao n cap] w fun e w' => ∃ xb F, e = .returned (.pointer (some ⟨xb, 0, none⟩)) ∧ PrIs w' xb (backM (Cl.new N life) (tblOf zs)) F ∧ (∀ k, F k → w.heap.size ≤ k) ∧ Below w.heap.size w w' := by
  have HNW := hide (new_ok N life w hN1 hN5 hl1 hl2)
  have HBK := hide (fun xb F w1 (h : PrIs w1 xb (Cl.new N life) F) (hb : Below w.heap.size w w1) => back_any xb (Cl.new N life) F zs ao n cap w1 h hl (hd.below hb) (by omega) hz)
  have HTE := hide ht
  generalize tE zs = te at *
  generalize tblOf zs = tb at *
  clear hd hz ht
  go_enter Try.func6, Try.ntmps6
  go_wp2_with fail
  refine HNW.out.mono ?_
  rintro e w1 ⟨xb, F, rfl, h1, hF, hb⟩
  have HB := hide hb
  have HF := hide hF
  have HK := hide (HBK.out xb F w1 h1 hb)
  clear h1 hF hb HBK HNW
  go_wp2_with fail
  refine HK.out.mono ?_
  rintro e w2 (⟨h1, rfl, _⟩ | ⟨h1, rfl, F2, h2, hS⟩)
  · exact absurd h1 HTE.out
  · have HR := hide (And.intro h2 hS)
    clear h1 h2 hS HK
    go_wp2
    go_ret
    refine ⟨xb, F2, rfl, HR.out.1, fun k hk => ?_, ?_⟩
    · rcases HR.out.2.own k hk with h | h
      · exact HF.out k h
      · exact Nat.le_trans HB.out.size h
    · exact HB.out.trans (HR.out.2.only.to_below HB.out.size (fun k hk => HF.out k hk))

end Go.Proofs.Ytajphdppmdoalab

namespace Go.Proofs.Ytajphdppmdoalab
open Go.RowKit
set_option linter.unusedVariables false

end Go.Proofs.Ytajphdppmdoalab

namespace Go.Proofs.Ytajphdppmdoalab
open Go.RowKit
set_option linter.unusedVariables false

/-- A step of play: the cluster behind it, and how many arrivals it had. -/
structure PStep (S S' : Cl) (r : Nat) : Prop where
  good : Good S'
  acc : ∀ told, Acc told S → Acc told S'
  next : S'.next = S.next + r
  few : r ≤ 1
  reps : S'.reps = S.reps
  life : S'.life = S.life
  now : S.now ≤ S'.now ∧ S'.now ≤ S.now + 1
theorem land_same (S : Cl) (k : Nat) : (landM S k).reps = S.reps ∧ (landM S k).life = S.life ∧ (landM S k).now = S.now ∧ (landM S k).next = S.next := ⟨rfl, rfl, rfl, rfl⟩
theorem pstep_tick (S : Cl) (h : Good S) (hn : S.now + 1 ≤ 2000000000000) : PStep S (tickM S) 0 :=
  ⟨good_tick S h hn, fun told ht => acc_tick told S ht, rfl, by omega, rfl, rfl, by show S.now ≤ S.now + 1 ∧ S.now + 1 ≤ S.now + 1; omega⟩
theorem pstep_deliver (S : Cl) (k : Nat) (h : Good S) : PStep S (deliverM S k) 0 := by
  have hb := born_deliver S k h.born
  exact ⟨good_deliver S k h, fun told ht => acc_deliver told S k ht, deliver_next S k, by omega, hb.2.2.2.1, hb.2.2.1, by rw [hb.2.1]; omega⟩
theorem pstep_lose (S : Cl) (k : Nat) (h : Good S) : PStep S (loseM S k) 0 := by
  have hb := born_lose S k h.born
  exact ⟨good_lose S k h, fun told ht => acc_lose told S k ht, lose_next S k, by omega, hb.2.2.2.1, hb.2.2.1, by rw [hb.2.1]; omega⟩
theorem pstep_same (S : Cl) (h : Good S) : PStep S S 0 := ⟨h, fun _ ht => ht, rfl, by omega, rfl, rfl, by omega⟩
theorem pstep_back (S : Cl) (T : List Int) (h : Good S) (h1 : T = [] ∨ T.length = 31) (h2 : ∀ z ∈ T, 0 ≤ z ∧ z ≤ 255) : PStep S (backM S T) 0 :=
  ⟨good_back S T h h1 h2, fun told ht => acc_back told S T ht, rfl, by omega, rfl, rfl, by show S.now ≤ S.now ∧ S.now ≤ S.now + 1; omega⟩
theorem pstep_arrive (S : Cl) (rep : Int) (u : Option Pk) (h : Good S) (hn : S.next + 1 ≤ 2000000000000) (hu : ∀ p, u = some p → PkB p ∧ (wholePk p = false → PkOK p)) : PStep S (arriveM S rep u) 1 := by
  have hb := born_arrive S rep u h.born
  exact ⟨good_arrive S rep u h hn hu, fun told ht => acc_arrive told S rep u ht (fun p hp hw => (hu p hp).2 hw), arrive_next S rep u, by omega, hb.2.2.2.1, hb.2.2.1, by rw [hb.2.1]; omega⟩
theorem ascK_lt (zs : List Int) (k : Nat) : ∀ z ∈ ascK zs k, 0 ≤ z ∧ z < (k : Int) := by
  induction k with
  | zero => intro z hz; simp [ascK] at hz
  | succ k ih =>
    intro z hz
    rw [ascK] at hz
    split at hz
    · rcases List.mem_append.1 hz with hz | hz
      · have := ih z hz
        omega
      · have := List.mem_singleton.1 hz
        omega
    · have := ih z hz
      omega
theorem tbK_bd (ord : List Int) (h : ∀ z ∈ ord, 0 ≤ z ∧ z ≤ 255) (k : Nat) : ∀ o ∈ tbK ord k, 0 ≤ o.getD 0 ∧ o.getD 0 ≤ 255 := by
  have hg : ∀ i, 0 ≤ ord.getD i 0 ∧ ord.getD i 0 ≤ 255 := by
    intro i
    rw [List.getD_eq_getElem?_getD]
    cases hi : ord[i]? with
    | none => simp
    | some z => exact h z (List.mem_of_getElem? hi)
  induction k with
  | zero =>
    intro o ho
    rw [tbK] at ho
    rw [(List.mem_replicate.1 ho).2]
    simp
  | succ k ih =>
    intro o ho
    rw [tbK] at ho
    rcases List.mem_or_eq_of_mem_set ho with ho | ho
    · exact ih o ho
    · rw [ho]
      exact hg _
theorem tbl_bd' (zs : List Int) : ∀ z ∈ tblOf zs, 0 ≤ z ∧ z ≤ 255 := by
  intro z hz
  unfold tblOf at hz
  split at hz
  · simp at hz
  · rw [tbl] at hz
    obtain ⟨o, ho, rfl⟩ := List.mem_map.1 hz
    refine tbK_bd (asc zs) (fun y hy => ?_) _ o ho
    have := ascK_lt zs 256 y hy
    omega

end Go.Proofs.Ytajphdppmdoalab

namespace Go.Proofs.Ytajphdppmdoalab
open Go.RowKit
set_option linter.unusedVariables false

theorem good_ticks (S : Cl) (n : Nat) (h : Good S) (hn : S.now + n ≤ 2000000000000) : Good (ticksM S n) := by
  induction n with
  | zero => exact h
  | succ n ih =>
    refine good_tick _ (ih (by omega)) ?_
    rw [(ticks_now S n).1]
    omega
/-- What is kept of nothing. -/
theorem held_nil (S : Cl) (he : S.ents = []) (o : Int) : (entsM S o).length = 0 ∧ heldN S o = 0 ∧ heldB S o = 0 := by
  have h0 : entsM S o = [] := by rw [entsM, he]; rfl
  exact ⟨by rw [h0]; rfl, by rw [heldN, h0]; rfl, by rw [heldB, h0]; rfl⟩
/-- A script of plain steps, as it lies in memory. -/
structure Opp where
  kind : Int
  a : Int
  b : Int
  c : Int
def Opp.ok (o : Opp) : Prop := (-9223372036854775808 ≤ o.kind ∧ o.kind ≤ 9223372036854775807) ∧ (-9223372036854775808 ≤ o.a ∧ o.a ≤ 9223372036854775807) ∧ (-9223372036854775808 ≤ o.b ∧ o.b ≤ 9223372036854775807) ∧ (-9223372036854775808 ≤ o.c ∧ o.c ≤ 9223372036854775807)
/-- The steps os lie behind an address. -/
def HasO (w : World) (ao : Option Addr) (os : List Opp) : Prop := (ao = none → os = []) ∧ (os ≠ [] → ∃ b f, ao = some ⟨b, f, none⟩ ∧ b < w.heap.size ∧ ∀ (i : Nat) (o : Opp), os[i]? = some o → w.cell? ⟨b, f + i * 4, none⟩ = some (.int .i64 o.kind) ∧ w.cell? ⟨b, f + i * 4 + 1, none⟩ = some (.int .i64 o.a) ∧ w.cell? ⟨b, f + i * 4 + 2, none⟩ = some (.int .i64 o.b) ∧ w.cell? ⟨b, f + i * 4 + 3, none⟩ = some (.int .i64 o.c))
theorem HasO.keep {w w' : World} {G : Nat → Prop} {ao : Option Addr} {os : List Opp} (h : HasO w ao os) (ho : Only G w w') (hG : ∀ a, ao = some a → ¬ G a.block) : HasO w' ao os := by
  refine ⟨h.1, fun hz => ?_⟩
  obtain ⟨b, f, rfl, hlt, hc⟩ := h.2 hz
  refine ⟨b, f, rfl, Nat.lt_of_lt_of_le hlt ho.size, fun i o hi => ?_⟩
  obtain ⟨c0, c1, c2, c3⟩ := hc i o hi
  exact ⟨(ho.cell (p := ⟨b, f + i * 4, none⟩) hlt (hG ⟨b, f, none⟩ rfl)).trans c0, (ho.cell (p := ⟨b, f + i * 4 + 1, none⟩) hlt (hG ⟨b, f, none⟩ rfl)).trans c1, (ho.cell (p := ⟨b, f + i * 4 + 2, none⟩) hlt (hG ⟨b, f, none⟩ rfl)).trans c2, (ho.cell (p := ⟨b, f + i * 4 + 3, none⟩) hlt (hG ⟨b, f, none⟩ rfl)).trans c3⟩

end Go.Proofs.Ytajphdppmdoalab

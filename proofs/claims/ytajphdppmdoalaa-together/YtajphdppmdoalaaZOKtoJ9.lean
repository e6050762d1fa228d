import Derived.Test.YtajphdppmdoalaaZOItoOJ
import Derived.Laws.MakeOwn
import Derived.Test.YtajphdppmdoalaaZNKtoC
import Derived.Test.YtajphdppmdoalaaZJ1toLP
namespace Go.Proofs.Ytajphdppmdoalaa
open Go.RowKit
set_option linter.unusedVariables false

theorem tick_prog (life now : Int) (R : List PE) : lateP life now R = (tickS (R.map PE.e) life (now + 1)).2 ∧ (youngP life now R).map PE.e = (tickS (R.map PE.e) life (now + 1)).1 := by
  constructor
  · simp only [lateP, outL, heldL, oldP, tickS, List.filter_map]
    rfl
  · simp only [youngP, tickS, List.filter_map]
    rfl
theorem stick_is {w w' : World} {vE v2 : Value} {R : List PE} {now life : Int} {F : Nat → Prop} {gS : Nat} (h : StIs w vE R now F) (ho : Only (fun q => q = gS) w w') (hg : ¬ F gS) (hrow : w'.ownsRow w.heap.size 116 11 v2 (youngP life now R).length ((youngP life now R).flatMap (PE.cells (now + 1)))) : StIs w' v2 (youngP life now R) (now + 1) (Grew F w w') := by
  have h1 := h.only ho (fun k hk hh => hg (hh ▸ hk))
  have hs : (youngP life now R).Sublist R := List.filter_sublist
  exact ⟨own_zero hrow, fun r hr => h1.rs r (hs.subset hr), fun r hr => h1.rh r (hs.subset hr), h.apS.sublist hs, h.apH.sublist hs, fun g hg => .inr (hrow.lt g hg), fun r hr g hg => .inl (h.fS r (hs.subset hr) g hg), fun r hr g hg => .inl (h.fH r (hs.subset hr) g hg), fun k hk => hk.elim (fun hk => h1.flt k hk) (fun hk => hk.2)⟩
/-- What the first j replicas tell at a tick. -/
def lateE (S : Cl) (j : Nat) : List Ev := (List.range j).flatMap (fun (o : Nat) => (tickS (entsM S o) S.life (S.now + 1)).2)
theorem late_snoc (S : Cl) (j : Nat) : lateE S (j + 1) = lateE S j ++ (tickS (entsM S j) S.life (S.now + 1)).2 := by
  simp [lateE, List.range_succ]
theorem late_small (S : Cl) (hs : Sml S) (j : Nat) : (tickS (entsM S j) S.life (S.now + 1)).2.length ≤ 3000 := by
  have h1 : ∀ e ∈ entsM S j, e.pcs.length ≤ 1000 := by
    intro e he
    have hm := (List.mem_filter.1 he).1
    exact Nat.le_trans (pcs_few e (hs.cok.ents e hm).1 (hs.ents e hm).pcs) (by omega)
  have h2 : ∀ L : List Ent, (∀ e ∈ L, e.pcs.length ≤ 1000) → (L.flatMap waitL).length ≤ 1000 * L.length := by
    intro L
    induction L with
    | nil => intro _; simp
    | cons e L ih =>
      intro hL
      have h3 := ih (fun x hx => hL x (List.mem_cons_of_mem _ hx))
      have h4 := hL e List.mem_cons_self
      have h5 : (waitL e).length ≤ e.pcs.length := List.length_filter_le _ _
      rw [List.flatMap_cons, List.length_append, List.length_cons]
      omega
  have h3 := hs.cok.few j
  simp only [tickS, List.length_map]
  have h4 := h2 ((entsM S j).filter (fun e => decide (S.life ≤ S.now + 1 - e.born))) (fun e he => h1 e (List.mem_filter.1 he).1)
  have h5 : ((entsM S j).filter (fun e => decide (S.life ≤ S.now + 1 - e.born))).length ≤ (entsM S j).length := List.length_filter_le _ _
  omega
theorem late_sum (S : Cl) (hs : Sml S) (j : Nat) : (lateE S j).length ≤ 3000 * j := by
  induction j with
  | zero => simp [lateE]
  | succ j ih =>
    have := late_small S hs j
    rw [late_snoc, List.length_append]
    omega

/-- A cluster in the middle of a tick: j replicas have had it. -/
def MidT (w : World) (xb : Nat) (S : Cl) (F : Nat → Prop) (gS N : Nat) (vT vN : Value) (RR : Nat → List PE) (j : Nat) (wr : World) : Prop :=
  ∃ F' cs' vV' RR' Fs', PrC wr xb { S with evs := S.evs ++ lateE S j } F' gS cs' vT vV' vN RR' Fs' (fun o => if o < j then S.now + 1 else S.now) ∧ Stp w wr F F' ∧ cs'.size = N ∧ (∀ o, o < j → (RR' o).map PE.e = (tickS (entsM S o) S.life (S.now + 1)).1) ∧ (∀ o, j ≤ o → RR' o = RR o)

set_option maxRecDepth 100000 in
set_option maxHeartbeats 3200000 in
theorem tick_core (xb : Nat) (S : Cl) (F : Nat → Prop) (gS N : Nat) (cs0 : Array Value) (vT vV vN : Value) (RR : Nat → List PE) (Fs : Nat → Nat → Prop) (w : World) (h : PrC w xb S F gS cs0 vT vV vN RR Fs (fun _ => S.now)) (hN : cs0.size = N) (hN5 : N ≤ 5) (hevl : S.evs.length ≤ 2000000000000)
    (hlate : ∀ j : Nat, (tickS (entsM S j) S.life (S.now + 1)).2.length ≤ 3000) (hsum : ∀ j, (lateE S j).length ≤ 3000 * j)
    (hm : ∀ o, o < N → (RR o).map PE.e = entsM S o) (hfew : ∀ o, o < N → PFew (RR o) ∧ ∀ r ∈ RR o, 0 ≤ S.now - r.e.born ∧ S.now - r.e.born ≤ 2000000000000) :
    Calls Try.prog 25 #[.pointer (some ⟨xb, 0, none⟩)] w fun e w' => e = .returned (.tuple #[]) ∧ MidT w xb S F gS N vT vN RR N w' := by
  have HM0 : Hid (MidT w xb S F gS N vT vN RR 0 w) := ⟨F, cs0, vV, RR, Fs, by
    have : S.evs ++ lateE S 0 = S.evs := by simp [lateE]
    rw [this]
    exact h.tcong (fun o _ => by simp), Stp.refl _ _, hN, fun o ho => by omega, fun o _ => rfl⟩
  have HMM := hide hm
  have HFW := hide hfew
  have HSU := hide hsum
  have hyb := h.lt
  have dS : w.cell? ⟨xb, 0, none⟩ = some (.slice (some ⟨gS, 0, none⟩) N N) := by rw [← hN]; exact arr_cell h.blk 0
  have HLT := hide hlate
  obtain ⟨i1, hi1, hp0, hp1, hp2⟩ := info_parts Try.infoEv
  have HI1 := hide (And.intro hi1 (And.intro hp0 (And.intro hp1 hp2)))
  clear h hm hfew hsum hlate hi1 hp0 hp1 hp2
  go_enter Try.func25, Try.ntmps25
  go_wp2_with fail
  go_loopw [9] (fun v wr => ∃ j : Nat, j ≤ N ∧ v = .int .i64 j ∧ Hid (MidT w xb S F gS N vT vN RR j wr)) (fun v _ => N - (intOf v).toNat)
  case atStart => exact ⟨0, Nat.zero_le _, rfl, HM0.out⟩
  case round =>
    obtain ⟨j, hj, rfl, HMID⟩ := hrel
    by_cases hlt : j < N
    · obtain ⟨F1, cs1, vV1, RR1, Fs1, hP1, hS1, hcs1, hL1, hR1⟩ := HMID.out
      obtain ⟨vE, hcE, hst⟩ := hP1.st j (by omega)
      simp only [Nat.lt_irrefl, if_false] at hst
      rw [hR1 j (Nat.le_refl _)] at hst
      have hgF : ¬ Fs1 j gS := fun hh => (hP1.sub j gS hh).2.1 rfl
      have HTK := hide (fun wz (hb : Below wr.heap.size wr wz) => stick_any gS j cs1 vE (RR j) S.now S.life (Fs1 j) wz ((hb.block gS (hP1.flt gS hP1.fg)).trans hP1.stB) hcE (hst.below hb) (HFW.out j hlt).1 (HFW.out j hlt).2)
      have HST := hide hst
      have HP1 := hide hP1
      have HGF := hide hgF
      have HREST := hide (And.intro hS1 (And.intro hcs1 (And.intro hL1 hR1)))
      have hx1 : xb < wr.heap.size := hP1.lt
      have e0 : wr.cell? ⟨xb, 0, none⟩ = some (.slice (some ⟨gS, 0, none⟩) N N) := by rw [← hcs1]; exact arr_cell hP1.blk 0
      have e1 : wr.cell? ⟨xb, 1, none⟩ = some (.int .i64 S.life) := arr_cell hP1.blk 1
      have hji : (j : Int) < (N : Int) := by omega
      have HBd : Hid (Below wr.heap.size wr wr.drew) := (Below.refl _ _).drew
      clear hP1 hst hgF hS1 hcs1 hL1 hR1 HMID
      go_upto_region 3 with (fail)
      go_cut [3] (fun a3 wc => ∃ (v v2 : Value), v = a3 ∧ Hid (wc.heap[gS]? = some (.cells (cs1.setIfInBounds j v2) 88 (0, 0)) ∧ wc.ownsRow wr.heap.size 116 11 v2 (youngP S.life S.now (RR j)).length ((youngP S.life S.now (RR j)).flatMap (PE.cells (S.now + 1))) ∧ wc.ownsRow wr.heap.size 56 3 v (lateP S.life S.now (RR j)).length ((lateP S.life S.now (RR j)).flatMap Ev.cells) ∧ ((lateP S.life S.now (RR j)).length = 0 → v = .slice none 0 0) ∧ Only (fun q => q = gS) wr wc))
      case first =>
        go_region_with (go_at_call 41; refine (HTK.out _ HBd.out).mono ?_; rintro e w6 ⟨v, v2, rfl, t1, t2, t3, t4, t5⟩)
        all_goals (go_wp2_with fail; go_meet)
        all_goals (case rel =>
          go_light
          exact ⟨_, v2, rfl, t1, t2, t3, t4, ((Only.refl _ wr).drewN 1).trans t5 (fun _ _ hh => hh)⟩)
      case rest =>
        obtain ⟨a3, v2, h3, HTP⟩ := hcut
        subst h3
        obtain ⟨w2, hw2⟩ : ∃ w2, w2 = wc := ⟨_, rfl⟩
        subst hw2
        obtain ⟨t1, t2, t3, t4, t5⟩ := HTP.out
        obtain ⟨hP2, hS2⟩ := HP1.out.store j v2 (youngP S.life S.now (RR j)) (S.now + 1) (t5.mono (fun k _ hk => .inl hk)) t1 (stick_is HST.out t5 HGF.out t2)
        have HP2 := hide hP2
        have HS2 := hide hS2
        have hyb2 := hP2.lt
        obtain ⟨va, vc, hvV⟩ := own_slice hP2.rV
        simp only at hvV
        have c4 : w2.cell? ⟨xb, 4, none⟩ = some vV1 := arr_cell hP2.blk 4
        have cF : ∀ j, w2.frozen? ⟨xb, j, none⟩ = false := fun j => arr_frozen hP2.blk j
        rw [hvV] at c4
        have HX2 := hide (own_zero t3)
        have HN2 := hide t4
        have HRV : Hid (w2.ownsRow 0 56 3 vV1 (S.evs ++ lateE S j).length ((S.evs ++ lateE S j).flatMap Ev.cells)) := hP2.rV
        rw [hvV] at HRV
        have hll : (lateP S.life S.now (RR j)).length ≤ 3000 := by rw [(tick_prog S.life S.now (RR j)).1, HMM.out j hlt]; exact HLT.out j
        have hsm := HSU.out j
        have hel : (S.evs ++ lateE S j).length ≤ 2000000100000 := by rw [List.length_append]; omega
        have HLP := hide (And.intro (tick_prog S.life S.now (RR j)) (HMM.out j hlt))
        generalize hLP : lateP S.life S.now (RR j) = LP at *
        generalize hEV : S.evs ++ lateE S j = EV at *
        obtain ⟨xa, xc, hx7⟩ := own_slice HX2.out
        subst hx7
        obtain ⟨hi1, hp0, hp1, hp2⟩ := HI1.out
        clear hP2 hS2 t1 t2 t3 t4 t5 HTK HST
        go_wp2_with (at_builtin; refine wpList_append_row _ rfl (.tmp 27) (.tmp 28) 52 rfl 56 i1 _ 3 16 Try.underlying52 hi1 hp0 hp1 hp2 rfl (by decide) _ _ _ rfl HRV.out _ _ _ rfl HX2.out HN2.out (ev_one _) (by unfold maxLen; omega) (by omega) ?_)
        intro v8 w8 hown8 hgrow8 hwh8 hsame8
        have ho8 : Only (fun k => vV1.ownBlock = some k) w2 w8 := by rw [hvV]; exact Only.of_grown hgrow8
        have hR := HP2.out.addV ho8 LP (vV' := v8) (by rw [List.length_append, List.flatMap_append]; exact hown8) (fun q hq => by rw [hvV]; exact hwh8 q hq)
        have HR := hide hR
        have hb8 := (ho8.block xb hyb2 (own_apart_blk HP2.out.rV HP2.out.blk (by decide))).trans HP2.out.blk
        have c8 : w8.cell? ⟨xb, 4, none⟩ = some vV1 := arr_cell hb8 4
        have cF8 : ∀ j, w8.frozen? ⟨xb, j, none⟩ = false := fun j => arr_frozen hb8 j
        have hyb8 : xb < w8.heap.size := lt_of_block hb8
        rw [hvV] at c8
        obtain ⟨ya, yc, hy8⟩ := own_slice hown8
        subst hy8
        clear hown8 hgrow8 hwh8 hsame8 hR hb8 ho8
        go_wp2
        go_roundw
        case rel =>
          go_light
          obtain ⟨F8, hP8, hS8⟩ := HR.out
          obtain ⟨⟨p1, p2⟩, p3⟩ := HLP.out
          obtain ⟨q1, q2, q3, q4⟩ := HREST.out
          have hev : EV ++ LP = S.evs ++ lateE S (j + 1) := by
            rw [late_snoc, ← List.append_assoc, hEV, p1, p3]
          have hP9 := (hP8.cong (S' := { S with evs := S.evs ++ lateE S (j + 1) }) rfl rfl rfl hev.symm rfl).tcong (T' := fun o => if o < j + 1 then S.now + 1 else S.now) (fun o _ => by
            by_cases h1 : o = j
            · subst h1
              simp
            · by_cases h2 : o < j
              · rw [if_pos (by omega), if_neg h1, if_pos h2]
              · rw [if_neg (by omega), if_neg h1, if_neg h2])
          refine ⟨j + 1, by omega, by go_num, F8, _, _, _, _, hP9, (q1.trans HS2.out).trans hS8, ?_, ?_, ?_⟩
          · rw [Array.size_setIfInBounds]; exact q2
          · intro o ho
            by_cases h1 : o = j
            · subst h1
              simp only [if_true]
              rw [p2, p3]
            · simp only [if_neg h1]
              exact q3 o (by omega)
          · intro o ho
            simp only [if_neg (show o ≠ j by omega)]
            exact q4 o (by omega)
        case measure => simp [intOf]; omega
    · obtain rfl : j = N := by omega
      go_wp2
      go_end0
      exact ⟨rfl, HMID.out⟩

theorem ctick_any (xb : Nat) (S : Cl) (F : Nat → Prop) (w : World) (h : PrIs w xb S F) (hs : Sml S) :
    Calls Try.prog 25 #[.pointer (some ⟨xb, 0, none⟩)] w fun e w' => e = .returned (.tuple #[]) ∧ ∃ F', PrIs w' xb (tickM S) F' ∧ Stp w w' F F' := by
  obtain ⟨gS, cs, vT, vV, vN, RR, Fs, h, hr, he⟩ := h
  have hN5 : cs.size ≤ 5 := by have := hs.reps; omega
  have hts := tick_store S
  refine (tick_core xb S F gS cs.size cs vT vV vN RR Fs w h rfl hN5 (by have := evs_few S hs; have := hs.next; omega) (late_small S hs) (late_sum S hs) he (fun o ho => by
    obtain ⟨f1, _, _, _, f5⟩ := few_of S hs o (RR o) (he o ho)
    exact ⟨f1, f5⟩)).mono ?_
  rintro e w' ⟨rfl, F', cs', vV', RR', Fs', hP, hS, hc, hL, _⟩
  have hev : (tickM S).evs = S.evs ++ lateE S cs.size := by
    rw [hts.1, hr]
    rfl
  refine ⟨rfl, F', ⟨gS, cs', vT, vV', vN, RR', Fs', ?_, ?_, ?_⟩, hS⟩
  · refine PrC.tcong (T := fun o => if o < cs.size then S.now + 1 else S.now) (hP.cong (S' := tickM S) rfl rfl rfl hev rfl) (fun o ho => ?_)
    rw [hc] at ho
    rw [if_pos ho]
    rfl
  · rw [hc]; exact hr
  · intro o ho
    rw [hc] at ho
    rw [hL o ho, hts.2]

end Go.Proofs.Ytajphdppmdoalaa

namespace Go.Proofs.Ytajphdppmdoalaa
open Go.RowKit
set_option linter.unusedVariables false

theorem Try.infoSt : (Try.prog.info? 88).map (fun i => (i.zero, i.size, i.bytes)) = some (some (.agg #[.slice none 0 0]), 1, 24) := by kernel_rfl
theorem made_store (n : Nat) : madeCells (Value.agg #[.slice none 0 0]).cells n = Array.replicate n (.slice none 0 0) := by
  apply Array.ext
  · simp [madeCells]
  · intro i h1 h2
    simp [madeCells, Value.cells, Nat.mod_one]

set_option maxRecDepth 100000 in
set_option maxHeartbeats 1600000 in
theorem new_ok (N : Nat) (life : Int) (w : World) (hN1 : 1 ≤ N) (hN5 : N ≤ 5) (hl1 : 1 ≤ life) (hl2 : life ≤ 20) :
    Calls Try.prog 30 #[.int .i64 N, .int .i64 life] w fun e w' => ∃ xb F, e = .returned (.tuple #[.pointer (some ⟨xb, 0, none⟩), .int .i64 0]) ∧ PrIs w' xb (Cl.new N life) F ∧ (∀ k, F k → w.heap.size ≤ k) ∧ Below w.heap.size w w' := by
  obtain ⟨i0, hi, hq0, hq1, hq2⟩ := info_parts Try.infoSt
  have hmk : ∀ w : World, (Instr.makeSlice 77 (.int .i64 (N : Int)) (.int .i64 (N : Int))).run Try.prog w = .ok (.slice (some ⟨w.heap.size, 0, none⟩) N N) (w.alloc (.cells (Array.replicate N (.slice none 0 0)) 88)) := by
    intro w
    have h := run_make (P := Try.prog) w 77 88 i0 _ Try.underlying77 hi hq0 .i64 .i64 (N : Int) (N : Int) (by omega) (Int.le_refl _) (by rw [hq2]; omega) (by omega)
    rw [Int.toNat_natCast, hq1, Nat.mul_one, made_store] at h
    exact h
  have hNi1 : (1 : Int) ≤ (N : Int) := by omega
  have hNi5 : (N : Int) ≤ 5 := by omega
  generalize hCS : Array.replicate N (Value.slice none 0 0) = cs at *
  have HCS := hide hCS
  clear hCS hi hq0 hq1 hq2
  go_enter Try.func30, Try.ntmps30
  go_wp2
  go_ret2
  have hsz : cs.size = N := by rw [← HCS.out]; simp
  have hge : ∀ o, o < N → cs[o]? = some (.slice none 0 0) := by intro o ho; rw [← HCS.out]; simp [ho]
  have hB0 : ((w.alloc (.cells cs 88)).alloc (.cells #[.slice (some ⟨w.heap.size, 0, none⟩) N N, .int .i64 life, .slice none 0 0, .int .i64 0, .slice none 0 0, .slice none 0 0] 80)).heap[w.heap.size]? = some (.cells cs 88 (0, 0)) := (Below.heap_alloc _ _ _ (by simp)).trans (heap_alloc_new _ _)
  have hB1 : ((w.alloc (.cells cs 88)).alloc (.cells #[.slice (some ⟨w.heap.size, 0, none⟩) N N, .int .i64 life, .slice none 0 0, .int .i64 0, .slice none 0 0, .slice none 0 0] 80)).heap[w.heap.size + 1]? = some (.cells #[.slice (some ⟨w.heap.size, 0, none⟩) N N, .int .i64 life, .slice none 0 0, .int .i64 0, .slice none 0 0, .slice none 0 0] 80 (0, 0)) := by
    have := heap_alloc_new (w.alloc (.cells cs 88)) (.cells #[.slice (some ⟨w.heap.size, 0, none⟩) N N, .int .i64 life, .slice none 0 0, .int .i64 0, .slice none 0 0, .slice none 0 0] 80)
    rwa [World.size_alloc] at this
  refine ⟨w.heap.size + 1, fun k => k = w.heap.size ∨ k = w.heap.size + 1, rfl, ⟨w.heap.size, cs, .slice none 0 0, .slice none 0 0, .slice none 0 0, fun _ => [], fun _ _ => False, ⟨?_, hB0, ?_, World.ownsRow_nil _ _ _ _, World.ownsRow_nil _ _ _ _, World.ownsRow_nil _ _ _ _, fun _ _ _ _ hh => hh.elim, fun _ _ hh => hh.elim, .inr rfl, .inl rfl, fun g hg => by simp [Value.ownBlock] at hg, fun g hg => by simp [Value.ownBlock] at hg, fun g hg => by simp [Value.ownBlock] at hg, ?_⟩, ?_, ?_⟩, ?_, ?_⟩
  · rw [hsz]
    exact hB1
  · intro o ho
    rw [hsz] at ho
    exact ⟨.slice none 0 0, hge o ho, ⟨World.ownsRow_nil _ _ _ _, by simp, by simp, List.Pairwise.nil, List.Pairwise.nil, fun g hg => by simp [Value.ownBlock] at hg, by simp, by simp, fun _ hh => hh.elim⟩⟩
  · intro k hk
    simp only [World.size_alloc]
    omega
  · rw [hsz]
    rfl
  · intro o _
    rfl
  · intro k hk
    omega
  · exact ((Below.refl _ _).alloc (Nat.le_refl _) _).alloc (by simp) _

set_option maxRecDepth 100000 in
set_option maxHeartbeats 1600000 in
theorem new_bad (r life : Int) (w : World) (h : r < 1 ∨ 5 < r ∨ life < 1 ∨ 20 < life) :
    Calls Try.prog 30 #[.int .i64 r, .int .i64 life] w fun e w' => e = .returned (.tuple #[.pointer none, .int .i64 1]) ∧ w' = w := by
  have hd : (decide (r < 1) || decide (5 < r) || decide (life < 1) || decide (20 < life)) = true := by
    simp only [Bool.or_eq_true, decide_eq_true_eq]
    omega
  by_cases h1 : r < 1
  · go_enter Try.func30, Try.ntmps30
    go_wp2
    go_ret2
    exact ⟨rfl, rfl⟩
  · by_cases h2 : 5 < r
    · go_enter Try.func30, Try.ntmps30
      go_wp2
      go_ret2
      exact ⟨rfl, rfl⟩
    · by_cases h3 : life < 1
      · go_enter Try.func30, Try.ntmps30
        go_wp2
        go_ret2
        exact ⟨rfl, rfl⟩
      · have h4 : 20 < life := by omega
        go_enter Try.func30, Try.ntmps30
        go_wp2
        go_ret2
        exact ⟨rfl, rfl⟩

theorem tE_tbl (zs : List Int) (h0 : tE zs = 0) : tblOf zs = tbl zs ∧ (tbl zs).length = 31 := by
  refine ⟨?_, tbl_len zs⟩
  unfold tblOf
  rw [if_neg]
  intro hz0
  unfold tE at h0
  split at h0
  · omega
  · first
    | omega
    | (split at h0 <;> omega)
theorem tE_none (zs : List Int) (h0 : tE zs ≠ 0) (h1 : tE zs ≠ 1) : tblOf zs = [] := by
  unfold tblOf
  rw [if_pos]
  unfold tE at h0 h1
  by_cases h2 : 6 < zs.length ∨ (asc zs).length < zs.length
  · rw [if_pos h2] at h1
    omega
  · rw [if_neg h2] at h0
    by_cases hz0 : zs.length = 0
    · exact hz0
    · rw [if_neg hz0] at h0
      omega
/-- A table is set. -/
theorem PrC.setT {w w1 : World} {xb : Nat} {S : Cl} {F : Nat → Prop} {gS : Nat} {cs : Array Value} {vT vV vN vT' : Value} {RR : Nat → List PE} {Fs : Nat → Nat → Prop} {T : Nat → Int} (h : PrC w xb S F gS cs vT vV vN RR Fs T) (hb : Below w.heap.size w w1) (zs : List Int)
    (hrow : w1.ownsRow w.heap.size 5 1 vT' zs.length (zs.map (Value.int .u8))) :
    ∃ F', PrC (w1.setCell ⟨xb, 2, none⟩ vT') xb (backM S zs) F' gS cs vT' vV vN RR Fs T ∧ Stp w (w1.setCell ⟨xb, 2, none⟩ vT') F F' := by
  have h1 := h.below hb
  have hb2 := row_setCell (j := 2) h1.blk vT'
  have ho : Only (fun k => k = xb) w (w1.setCell ⟨xb, 2, none⟩ vT') := (Only.of_below (F := fun k => k = xb) hb).setG
  have hx : w1.heap[xb]? = _ := h1.blk
  obtain ⟨h2, h3⟩ := h.upd ho (fun k hk => .inl hk) (backM S zs) vT' vV vN (by simpa [backM] using hb2) (own_set' (own_zero hrow) h1.blk (by decide) _) (own_set' h1.rV h1.blk (by decide) _) (own_set' h1.rN h1.blk (by decide) _) (fun g hg => .inr (hrow.lt g hg).1) (fun g hg => .inl hg) (fun g hg => .inl hg)
  exact ⟨_, h2, h3⟩

set_option maxRecDepth 100000 in
set_option maxHeartbeats 1600000 in
theorem back_any (xb : Nat) (S : Cl) (F : Nat → Prop) (zs : List Int) (ao : Option Addr) (n cap : Nat) (w : World) (h : PrIs w xb S F) (hl : zs.length = n) (hd : Has w ao zs) (hn : n ≤ 9223372036854775807) (hz : ∀ z ∈ zs, 0 ≤ z ∧ z ≤ 255) :
    Calls Try.prog 31 #[.pointer (some ⟨xb, 0, none⟩), .slice ao n cap] w fun e w' => (tE zs = 1 ∧ e = .returned (.int .i64 1) ∧ Below w.heap.size w w') ∨ (tE zs ≠ 1 ∧ e = .returned (.int .i64 0) ∧ ∃ F', PrIs w' xb (backM S (tblOf zs)) F' ∧ Stp w w' F F') := by
  obtain ⟨gS, cs, vT, vV, vN, RR, Fs, h, hr, he⟩ := h
  have HTB := hide (ctable_any ao n cap zs w hl hd hn hz)
  have HH := hide h
  have HE := hide (And.intro hr he)
  have hyb := h.lt
  have HFIN : Hid (∀ w1 v T', Below w.heap.size w w1 → w1.ownsRow w.heap.size 5 1 v T'.length (T'.map (Value.int .u8)) → ∃ F', PrIs (w1.setCell ⟨xb, 2, none⟩ v) xb (backM S T') F' ∧ Stp w (w1.setCell ⟨xb, 2, none⟩ v) F F') := by
    intro w1 v T' hb hrow
    obtain ⟨F', h1, h2⟩ := h.setT hb T' hrow
    exact ⟨F', ⟨gS, cs, v, vV, vN, RR, Fs, h1, hr, he⟩, h2⟩
  have htb := tE_tbl zs
  have ht7 := tE_none zs
  unfold TabPost at HTB
  generalize tE zs = te at *
  have HT := hide (And.intro htb ht7)
  generalize tblOf zs = TO at *
  generalize tbl zs = TL at *
  have cT : w.cell? ⟨xb, 2, none⟩ = some vT := arr_cell h.blk 2
  obtain ⟨ta, tc, hvT⟩ := own_slice h.rT
  rw [hvT] at cT
  have HFZ : Hid (∀ w1, Below w.heap.size w w1 → w1.frozen? ⟨xb, 2, none⟩ = false) := fun w1 hb => arr_frozen (h.below hb).blk 2
  clear h hr he htb ht7
  go_enter Try.func31, Try.ntmps31
  go_wp2_with fail
  refine HTB.out.mono ?_
  rintro e w1 ⟨hb1, ⟨ht, v, rfl, hrow, hnn⟩ | ⟨ht, rfl⟩⟩
  · obtain ⟨va, vc, rfl⟩ := own_slice hrow
    have HB1 := hide hb1
    have HRW := hide hrow
    have c1 := (hb1.cell (p := ⟨xb, 2, none⟩) hyb).trans cT
    have f1 := HFZ.out w1 hb1
    have hx1 : xb < w1.heap.size := Nat.lt_of_lt_of_le hyb hb1.size
    have HTE := hide ht
    clear hb1 hrow ht hnn HTB
    go_wp2
    go_ret
    obtain ⟨t1, t2⟩ := HT.out.1 HTE.out
    refine .inr ⟨by rw [HTE.out]; omega, rfl, ?_⟩
    rw [t1]
    refine HFIN.out w1 _ TL HB1.out ?_
    rw [t2]
    exact HRW.out
  · have HB1 := hide hb1
    by_cases h1 : te = 1
    · have HTE := hide h1
      subst h1
      clear hb1 ht HTB
      go_wp2
      go_ret
      first
        | exact .inl ⟨HTE.out, rfl, HB1.out⟩
        | exact ⟨rfl, HB1.out⟩
    · have hbe : (te == 1) = false := by simpa using h1
      have c1 := (hb1.cell (p := ⟨xb, 2, none⟩) hyb).trans cT
      have f1 := HFZ.out w1 hb1
      have hx1 : xb < w1.heap.size := Nat.lt_of_lt_of_le hyb hb1.size
      have HTE := hide (And.intro ht h1)
      clear hb1 ht HTB h1
      go_wp2
      go_ret
      refine .inr ⟨HTE.out.2, rfl, ?_⟩
      rw [HT.out.2 HTE.out.1 HTE.out.2]
      exact HFIN.out w1 _ [] HB1.out (World.ownsRow_nil _ _ _ _)

end Go.Proofs.Ytajphdppmdoalaa

namespace Go.Proofs.Ytajphdppmdoalaa
open Go.RowKit
set_option linter.unusedVariables false

theorem tdiv_bd (a n : Int) (hn : 1 ≤ n) (hc : -9223372036854775808 ≤ a) (hc2 : a ≤ 9223372036854775807) : -9223372036854775808 ≤ a.tdiv n ∧ a.tdiv n ≤ 9223372036854775807 := by
  by_cases h : 0 ≤ a
  · rw [Int.tdiv_eq_ediv_of_nonneg h]
    have h1 := Int.ediv_nonneg h (show 0 ≤ n by omega)
    have h2 := Int.ediv_le_self n h
    omega
  · obtain ⟨b, rfl⟩ : ∃ b, a = -b := ⟨-a, by omega⟩
    rw [Int.neg_tdiv, Int.tdiv_eq_ediv_of_nonneg (by omega)]
    have h1 := Int.ediv_nonneg (show 0 ≤ b by omega) (show 0 ≤ n by omega)
    have h2 := Int.ediv_le_self n (show 0 ≤ b by omega)
    omega

set_option maxRecDepth 100000 in
set_option maxHeartbeats 800000 in
theorem some_any (raw : Int) (w : World) (hc : -9223372036854775808 ≤ raw) (hc2 : raw ≤ 9223372036854775807) :
    Calls Try.prog 14 #[.int .i64 raw] w fun e w' => ∃ (l : List Int) (v : Value), e = .returned v ∧ w'.ownsRow w.heap.size 5 1 v l.length (l.map (Value.int .u8)) ∧ nd l = true ∧ 1 ≤ l.length ∧ l.length ≤ 6 ∧ (∀ z ∈ l, 0 ≤ z ∧ z ≤ 255) ∧ Below w.heap.size w w' := by
  obtain ⟨i5, hi, hz5, hz6, hz7⟩ := info_parts info_u8
  go_enter Try.func14, Try.ntmps14
  go_wp2_with fail
  refine (pick_any raw 6 w hc hc2 (by decide) (by decide)).mono ?_
  rintro e w1 ⟨rfl, rfl⟩
  have hp1 := pk_bd raw 6 (by decide)
  generalize pk raw 6 = p1 at *
  have hq1 := tdiv_bd raw 7 (by decide) hc hc2
  have hq2 := tdiv_bd raw 1800 (by decide) hc hc2
  go_wp2_with fail
  refine (pick_any _ 256 w1 hq1.1 hq1.2 (by decide) (by decide)).mono ?_
  rintro e w2 ⟨rfl, rfl⟩
  have hp2 := pk_bd (raw.tdiv 7) 256 (by decide)
  generalize pk (raw.tdiv 7) 256 = p2 at *
  go_wp2_with fail
  refine (pick_any _ 20 w2 hq2.1 hq2.2 (by decide) (by decide)).mono ?_
  rintro e w3 ⟨rfl, rfl⟩
  have hp3 := pk_bd (raw.tdiv 1800) 20 (by decide)
  generalize pk (raw.tdiv 1800) 20 = p3 at *
  obtain ⟨n, hn⟩ : ∃ n : Nat, (n : Int) = 1 + p1 := ⟨(1 + p1).toNat, by omega⟩
  obtain ⟨s, hs⟩ : ∃ s : Int, s = 1 + 2 * p3 := ⟨_, rfl⟩
  have hn6 : n ≤ 6 := by omega
  have hs39 : 1 ≤ s ∧ s ≤ 39 := by omega
  have hnd := hide (smL_nd p2 s n hs39.1 hs39.2 hn6)
  go_wp2_with fail
  rw [← hn, ← hs]
  have hn1 : 1 ≤ n := by omega
  clear hn hs
  go_loopw [6, 7] (fun v i wr => ∃ k : Nat, k ≤ n ∧ i = .int .i64 k ∧ Hid (wr.ownsRow w3.heap.size 5 1 v k ((smL p2 s k).map (Value.int .u8))) ∧ Hid (Below w3.heap.size w3 wr))
    (fun _ i _ => n - (intOf i).toNat)
  case atStart => exact ⟨0, Nat.zero_le _, rfl, World.ownsRow_nil _ _ _ _, Below.refl _ _⟩
  case round =>
    obtain ⟨k, hk, rfl, HO, HB⟩ := hrel
    have hsz : w3.heap.size ≤ wr.heap.size := HB.out.size
    by_cases hlt : k < n
    · have HA := hide (show smL p2 s (k + 1) = smL p2 s k ++ [(p2 + k * s) % 256] from rfl)
      have hks : 0 ≤ (k : Int) * s ∧ (k : Int) * s ≤ 234 := by
        constructor
        · exact Int.mul_nonneg (by omega) (by omega)
        · have h6 := Int.mul_le_mul_of_nonneg_right (show (k : Int) ≤ 6 by omega) (show 0 ≤ s by omega)
          omega
      go_wp2_with (at_builtin; refine wpList_append_own _ rfl (.tmp 24) (.tmp 31) 26 rfl w3.heap.size 5 i5 (.int .u8 0) 1 1 Try.underlying26 hi hz5 hz6 hz7 rfl (by decide) _ _ _ rfl (HO.out.alloc _) ⟨wr.heap.size, 0, none⟩ 1 1 [_] rfl rfl (cell_one_new _ _ _) (by simp [Value.oneCell']) (by unfold maxLen; omega) (by omega) (by simp; omega) ?_)
      intro v5 w5 hown hgrow hiff
      have HO5 := hide hown
      have HB5 : Hid (Below w3.heap.size w3 w5) := (HB.out.alloc hsz _).grown hgrow (by simp; omega) (fun q hq => by have := (HO.out.lt q hq).1; omega)
      clear hown hiff hgrow
      go_wp2
      go_roundw
      case rel => exact ⟨k + 1, by omega, by go_num, by rw [HA.out]; simpa [Hid] using HO5, HB5⟩
      case measure => simp [intOf]; omega
    · obtain rfl : k = n := by omega
      go_wp2
      go_ret
      refine ⟨smL p2 s k, _, rfl, ?_, hnd.out, ?_, ?_, smL_bd _ _ _, HB.out⟩
      · rw [smL_len]; exact HO.out
      · rw [smL_len]; omega
      · rw [smL_len]; omega
end Go.Proofs.Ytajphdppmdoalaa

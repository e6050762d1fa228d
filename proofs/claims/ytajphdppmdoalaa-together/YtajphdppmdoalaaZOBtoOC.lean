import Derived.Test.YtajphdppmdoalaaZT1toOA
namespace Go.Proofs.Ytajphdppmdoalaa
open Go.RowKit
set_option linter.unusedVariables false

theorem PrC.lt {w : World} {xb : Nat} {S : Cl} {F : Nat → Prop} {gS : Nat} {cs : Array Value} {vT vV vN : Value} {RR : Nat → List PE} {Fs : Nat → Nat → Prop} {T : Nat → Int} (h : PrC w xb S F gS cs vT vV vN RR Fs T) : xb < w.heap.size := h.flt xb h.fx
/-- Events are appended. -/
theorem PrC.addV {w w2 : World} {xb : Nat} {S : Cl} {F : Nat → Prop} {gS : Nat} {cs : Array Value} {vT vV vN vV' : Value} {RR : Nat → List PE} {Fs : Nat → Nat → Prop} {T : Nat → Int} (h : PrC w xb S F gS cs vT vV vN RR Fs T) (ho : Only (fun k => vV.ownBlock = some k) w w2) (E : List Ev)
    (hrow : w2.ownsRow 0 56 3 vV' (S.evs ++ E).length ((S.evs ++ E).flatMap Ev.cells)) (lV : ∀ g, vV'.ownBlock = some g → vV.ownBlock = some g ∨ w.heap.size ≤ g) :
    ∃ F', PrC (w2.setCell ⟨xb, 4, none⟩ vV') xb { S with evs := S.evs ++ E } F' gS cs vT vV' vN RR Fs T ∧ Stp w (w2.setCell ⟨xb, 4, none⟩ vV') F F' := by
  have hbx : w2.heap[xb]? = _ := (ho.block xb h.lt (own_apart_blk h.rV h.blk (by decide))).trans h.blk
  have hb2 := row_setCell (j := 4) hbx vV'
  have hT2 := own_only h.rT ho (fun g hg hh => own_apart' h.rT h.rV (by decide) hg hh)
  have hN2 := own_only h.rN ho (fun g hg hh => own_apart' h.rN h.rV (by decide) hg hh)
  have ho2 : Only (fun k => k = xb ∨ vV.ownBlock = some k) w (w2.setCell ⟨xb, 4, none⟩ vV') := (ho.mono (fun k _ hk => .inr hk)).setCell (fun _ => .inl rfl) _
  obtain ⟨h1, h2⟩ := h.upd ho2 (fun k hk => hk.elim .inl (fun hk => .inr (.inr (.inl hk)))) { S with evs := S.evs ++ E } vT vV' vN (by simpa using hb2) (own_set' hT2 hbx (by decide) _) (own_set' hrow hbx (by decide) _) (own_set' hN2 hbx (by decide) _) (fun g hg => .inl hg) lV (fun g hg => .inl hg)
  exact ⟨_, h1, h2⟩

set_option maxRecDepth 100000 in
set_option maxHeartbeats 1600000 in
theorem tell_any (xb : Nat) (S : Cl) (F : Nat → Prop) (gS : Nat) (cs : Array Value) (vT vV vN : Value) (RR : Nat → List PE) (Fs : Nat → Nat → Prop) (T : Nat → Int) (seq : Nat) (f whr : Int) (w : World) (h : PrC w xb S F gS cs vT vV vN RR Fs T) (hn : S.evs.length ≤ 2000000000000) :
    Calls Try.prog 34 #[.pointer (some ⟨xb, 0, none⟩), .int .i64 seq, .int .u8 f, .int .u8 whr] w fun e w' => e = .returned (.tuple #[]) ∧ ∃ F' vV', PrC w' xb (toldM S seq f whr) F' gS cs vT vV' vN RR Fs T ∧ Stp w w' F F' := by
  obtain ⟨i0, hi, hz0, hz1, hz2⟩ := info_parts Try.infoEv
  have HH := hide h
  have hyb := h.lt
  have cV : w.cell? ⟨xb, 4, none⟩ = some vV := arr_cell h.blk 4
  have cF : ∀ j, w.frozen? ⟨xb, j, none⟩ = false := fun j => arr_frozen h.blk j
  clear h
  go_enter Try.func34, Try.ntmps34
  go_wp2_with (at_builtin; refine wpList_append_at _ rfl (.tmp 12) (.tmp 17) 52 rfl 56 i0 _ 3 16 Try.underlying52 hi hz0 hz1 hz2 rfl (by decide) _ _ _ rfl (HH.out.rV.alloc _) ⟨w.heap.size, 0, none⟩ 1 1 (by decide) [.int .i64 seq, .int .u8 f, .int .u8 whr] rfl rfl (cells_new _ _ _) (by simp [Value.oneCell']) (by unfold maxLen; omega) (by omega) ?_)
  intro g c w2 hown hgrow hwhere hkeep
  have ho : Only (fun k => vV.ownBlock = some k) w w2 := ((Only.refl _ _).alloc _).grown hgrow (fun k _ hk => hk)
  have hev : S.evs.flatMap Ev.cells ++ [.int .i64 seq, .int .u8 f, .int .u8 whr] = (S.evs ++ [(⟨seq, f, whr⟩ : Ev)]).flatMap Ev.cells := by simp [Ev.cells]
  rw [hev] at hown
  have R := HH.out.addV ho [⟨seq, f, whr⟩] (by rw [List.length_append]; exact hown) (by
    intro q hq
    simp only [Value.ownBlock, Option.some.injEq] at hq
    subst hq
    rcases hwhere with h1 | h1
    · exact .inl h1
    · exact .inr (by have : w.heap.size ≤ (w.alloc (.cells #[.int .i64 seq, .int .u8 f, .int .u8 whr] 56)).heap.size := by simp
                     omega))
  have HR := hide R
  have hyb2 : xb < w2.heap.size := Nat.lt_of_lt_of_le hyb ho.size
  have hb2 := (ho.block xb hyb (own_apart_blk HH.out.rV HH.out.blk (by decide))).trans HH.out.blk
  have cF2 : ∀ j, w2.frozen? ⟨xb, j, none⟩ = false := fun j => arr_frozen hb2 j
  have cV2 : w2.cell? ⟨xb, 4, none⟩ = some vV := arr_cell hb2 4
  clear R hown hgrow hkeep hwhere hev ho hb2
  go_wp2
  go_end0
  obtain ⟨F', h1, h2⟩ := HR.out
  exact ⟨rfl, F', _, h1, h2⟩

theorem mod31 (h : Int) (h0 : 0 ≤ h) : ∃ r : Nat, h % 31 = (r : Int) ∧ r < 31 ∧ r = h.toNat % 31 ∧ (r : Int) < 31 := ⟨h.toNat % 31, by omega, Nat.mod_lt _ (by decide), rfl, by omega⟩

set_option maxRecDepth 100000 in
set_option maxHeartbeats 1600000 in
theorem choose_any (xb : Nat) (S : Cl) (F : Nat → Prop) (gS : Nat) (cs : Array Value) (vT vV vN : Value) (RR : Nat → List PE) (Fs : Nat → Nat → Prop) (T : Nat → Int) (src dst proto id off : Int) (more : Bool) (sport dport : Int) (ao : Option Addr) (n cap : Nat) (w : World) (h : PrC w xb S F gS cs vT vV vN RR Fs T) (hs : S.slots = [] ∨ S.slots.length = 31) (hsrc0 : 0 ≤ src) (hsrc : src ≤ 65535) (hdst0 : 0 ≤ dst) (hdst : dst ≤ 65535) (hproto0 : 0 ≤ proto) (hproto : proto ≤ 255) (hid0 : 0 ≤ id) (hid : id ≤ 65535) (hoff0 : 0 ≤ off) (hoff : off ≤ 255) (hsport0 : 0 ≤ sport) (hsport : sport ≤ 65535) (hdport0 : 0 ≤ dport) (hdport : dport ≤ 65535) :
    Calls Try.prog 18 #[.pointer (some ⟨xb, 0, none⟩), .agg #[.int .u16 src, .int .u16 dst, .int .u8 proto, .int .u16 id, .int .u8 off, .bool more, .int .u16 sport, .int .u16 dport, .slice ao n cap]] w fun e w' => e = .returned (.tuple #[.int .u8 (S.slots.getD ((flH src dst proto sport dport).toNat % 31) 0), .int .i64 (if (!S.slots.isEmpty) = true then 0 else 7)]) ∧ Below w.heap.size w w' := by
  have HFL := hide (fun w => flow_any src dst proto id off more sport dport ao n cap w hsrc0 hsrc hdst0 hdst hproto0 hproto hid0 hid hoff0 hoff hsport0 hsport hdport0 hdport)
  have HH := hide h
  have hxw := h.lt
  have hfb : 0 ≤ flH src dst proto sport dport ∧ flH src dst proto sport dport ≤ 4294967295 := hsh_bd _
  generalize flH src dst proto sport dport = hh at *
  obtain ⟨r, hr, hr31, hre, hri⟩ := mod31 hh hfb.1
  rw [← hre]
  clear hre
  rcases hs with hs | hs
  · have cT : w.cell? ⟨xb, 2, none⟩ = some (.slice none 0 0) ∨ ∃ g c, w.cell? ⟨xb, 2, none⟩ = some (.slice g 0 c) := by
      have h1 := arr_cell h.blk 2
      obtain ⟨a0, c0, hv⟩ := own_slice h.rT
      rw [hs] at hv
      exact .inr ⟨a0, c0, by rw [h1, hv]; rfl⟩
    have cT' : ∃ g c, w.cell? ⟨xb, 2, none⟩ = some (.slice g 0 c) := cT.elim (fun h => ⟨none, 0, h⟩) (fun h => h)
    obtain ⟨a0, c0, cT⟩ := cT'
    have HR : Hid (S.slots.getD r 0 = 0 ∧ (if (!S.slots.isEmpty) = true then (0 : Int) else 7) = 7) := by rw [hs]; exact ⟨rfl, rfl⟩
    generalize S.slots.getD r 0 = b at *
    generalize (if (!S.slots.isEmpty) = true then (0 : Int) else 7) = ec at *
    obtain ⟨h1, h2⟩ := HR.out
    subst h1 h2
    clear h hs HH
    go_enter Try.func18, Try.ntmps18
    go_wp2_with fail
    refine (HFL.out _).mono ?_
    rintro e w1 ⟨rfl, hb1⟩
    have HB1 : Hid (Below w.heap.size w w1) := ((Below.refl _ _).alloc (Nat.le_refl _) _).trans (hb1.mono (by simp))
    have c1 := (HB1.out.cell (p := ⟨xb, 2, none⟩) hxw).trans cT
    have hx1 : xb < w1.heap.size := Nat.lt_of_lt_of_le hxw HB1.out.size
    clear hb1
    go_wp2
    go_ret2
    exact ⟨rfl, HB1.out⟩
  · obtain ⟨gs, c0, hv⟩ := own_some h.rT (by omega)
    rw [hs] at hv
    have cT : w.cell? ⟨xb, 2, none⟩ = some (.slice (some ⟨gs, 0, none⟩) 31 c0) := by rw [← hv]; exact arr_cell h.blk 2
    have hrow := h.rT
    rw [hs, hv] at hrow
    have hgs : gs < w.heap.size := (hrow.lt gs rfl).2
    have c8 : w.cell? ⟨gs, r, none⟩ = some (.int .u8 (S.slots.getD r 0)) := by
      rw [hrow.cellAt r (by omega), List.getElem?_map, List.getElem?_eq_getElem (by omega), List.getD_eq_getElem?_getD, List.getElem?_eq_getElem (by omega)]
      rfl
    have hne : (if (!S.slots.isEmpty) = true then (0 : Int) else 7) = 0 := by
      cases hl : S.slots with
      | nil => rw [hl] at hs; simp at hs
      | cons a l => rfl
    rw [hne]
    generalize S.slots.getD r 0 = b at *
    clear h hs HH hne hrow hv
    go_enter Try.func18, Try.ntmps18
    go_wp2_with fail
    refine (HFL.out _).mono ?_
    rintro e w1 ⟨rfl, hb1⟩
    have HB1 : Hid (Below w.heap.size w w1) := ((Below.refl _ _).alloc (Nat.le_refl _) _).trans (hb1.mono (by simp))
    have c1 := (HB1.out.cell (p := ⟨xb, 2, none⟩) hxw).trans cT
    have c2 := (HB1.out.cell (p := ⟨gs, r, none⟩) hgs).trans c8
    have hx1 : xb < w1.heap.size := Nat.lt_of_lt_of_le hxw HB1.out.size
    have hg1 : gs < w1.heap.size := Nat.lt_of_lt_of_le hgs HB1.out.size
    clear hb1
    go_wp2
    go_ret2
    exact ⟨rfl, HB1.out⟩

set_option maxRecDepth 100000 in
set_option maxHeartbeats 1600000 in
theorem owner_any (xb : Nat) (S : Cl) (F : Nat → Prop) (gS : Nat) (cs : Array Value) (vT vV vN : Value) (RR : Nat → List PE) (Fs : Nat → Nat → Prop) (T : Nat → Int) (src dst proto id off : Int) (more : Bool) (sport dport : Int) (ao : Option Addr) (n cap : Nat) (w : World) (h : PrC w xb S F gS cs vT vV vN RR Fs T) (hn1 : 1 ≤ cs.size) (hn5 : cs.size ≤ 5) (hsrc0 : 0 ≤ src) (hsrc : src ≤ 65535) (hdst0 : 0 ≤ dst) (hdst : dst ≤ 65535) (hproto0 : 0 ≤ proto) (hproto : proto ≤ 255) (hid0 : 0 ≤ id) (hid : id ≤ 65535) (hoff0 : 0 ≤ off) (hoff : off ≤ 255) (hsport0 : 0 ≤ sport) (hsport : sport ≤ 65535) (hdport0 : 0 ≤ dport) (hdport : dport ≤ 65535) :
    Calls Try.prog 26 #[.pointer (some ⟨xb, 0, none⟩), .agg #[.int .u16 src, .int .u16 dst, .int .u8 proto, .int .u16 id, .int .u8 off, .bool more, .int .u16 sport, .int .u16 dport, .slice ao n cap]] w fun e w' => e = .returned (.int .i64 (dgH src dst proto id % (cs.size : Int))) ∧ Below w.heap.size w w' := by
  have HDG := hide (fun w => datagram_any src dst proto id off more sport dport ao n cap w hsrc0 hsrc hdst0 hdst hproto0 hproto hid0 hid hoff0 hoff hsport0 hsport hdport0 hdport)
  have hxw := h.lt
  have cS : w.cell? ⟨xb, 0, none⟩ = some (.slice (some ⟨gS, 0, none⟩) cs.size cs.size) := arr_cell h.blk 0
  have hfb : 0 ≤ dgH src dst proto id ∧ dgH src dst proto id ≤ 4294967295 := hsh_bd _
  generalize dgH src dst proto id = hh at *
  generalize cs.size = N at *
  have hN0 : ((N : Int) == 0) = false := by rw [beq_eq_false_iff_ne]; omega
  have hmb : 0 ≤ hh % (N : Int) ∧ hh % (N : Int) < (N : Int) := ⟨Int.emod_nonneg _ (by omega), Int.emod_lt_of_pos _ (by omega)⟩
  clear h
  go_enter Try.func26, Try.ntmps26
  go_wp2_with fail
  refine (HDG.out _).mono ?_
  rintro e w1 ⟨rfl, hb1⟩
  have HB1 : Hid (Below w.heap.size w w1) := ((Below.refl _ _).alloc (Nat.le_refl _) _).trans (hb1.mono (by simp))
  clear hb1
  go_wp2
  go_ret
  exact ⟨rfl, HB1.out⟩

/-- Without its list of events. -/
theorem PrC.taken {w : World} {xb : Nat} {S : Cl} {F : Nat → Prop} {gS : Nat} {cs : Array Value} {vT vV vN : Value} {RR : Nat → List PE} {Fs : Nat → Nat → Prop} {T : Nat → Int} (h : PrC w xb S F gS cs vT vV vN RR Fs T) :
    PrC (w.setCell ⟨xb, 4, none⟩ (.slice none 0 0)) xb (takeM S) (fun k => F k ∧ vV.ownBlock ≠ some k) gS cs vT (.slice none 0 0) vN RR Fs T ∧ Stp w (w.setCell ⟨xb, 4, none⟩ (.slice none 0 0)) F (fun k => F k ∧ vV.ownBlock ≠ some k) ∧ (w.setCell ⟨xb, 4, none⟩ (.slice none 0 0)).ownsRow 0 56 3 vV S.evs.length (S.evs.flatMap Ev.cells) := by
  have ho : Only (fun k => k = xb) w (w.setCell ⟨xb, 4, none⟩ (.slice none 0 0)) := (Only.refl (fun k => k = xb) w).setG
  have hb2 := row_setCell (j := 4) h.blk (.slice none 0 0)
  obtain ⟨h1, h2⟩ := h.upd ho (fun k hk => .inl hk) (takeM S) vT (.slice none 0 0) vN (by simpa [takeM] using hb2) (own_set' h.rT h.blk (by decide) _) (World.ownsRow_nil _ _ _ _) (own_set' h.rN h.blk (by decide) _) (fun g hg => .inl hg) (fun g hg => by simp [Value.ownBlock] at hg) (fun g hg => .inl hg)
  have hvx : vV.ownBlock ≠ some xb := own_apart_blk h.rV h.blk (by decide)
  have hvg : vV.ownBlock ≠ some gS := own_apart_blk h.rV h.stB (by decide)
  refine ⟨⟨h1.blk, h1.stB, h1.st, h1.rT, h1.rV, h1.rN, h1.dis, ?_, ⟨h.fx, hvx⟩, ⟨h.fg, hvg⟩, fun g hg => ⟨h.fT g hg, fun hh => own_apart' h.rT h.rV (by decide) hg hh⟩, by simp [Value.ownBlock], fun g hg => ⟨h.fN g hg, fun hh => own_apart' h.rN h.rV (by decide) hg hh⟩, fun k hk => h1.flt k (.inl hk.1)⟩, ⟨h2.only, fun k hk => .inl hk.1⟩, own_set' h.rV h.blk (by decide) _⟩
  intro o k hk
  obtain ⟨s1, s2, s3, s4, s5, s6⟩ := h.sub o k hk
  exact ⟨⟨s1, s5⟩, s2, s3, s4, by simp [Value.ownBlock], s6⟩

set_option maxRecDepth 100000 in
set_option maxHeartbeats 1600000 in
theorem take_any (xb : Nat) (S : Cl) (F : Nat → Prop) (w : World) (h : PrIs w xb S F) :
    Calls Try.prog 21 #[.pointer (some ⟨xb, 0, none⟩)] w fun e w' => ∃ v F', e = .returned v ∧ PrIs w' xb (takeM S) F' ∧ Stp w w' F F' ∧ w'.ownsRow 0 56 3 v S.evs.length (S.evs.flatMap Ev.cells) ∧ (∀ g, v.ownBlock = some g → F g ∧ ¬ F' g) := by
  obtain ⟨gS, cs, vT, vV, vN, RR, Fs, h, hr, he⟩ := h
  have HE := hide (And.intro hr he)
  have HT := hide h.taken
  have HFV := hide h.fV
  have hyb := h.lt
  have cV : w.cell? ⟨xb, 4, none⟩ = some vV := arr_cell h.blk 4
  have cF : ∀ j, w.frozen? ⟨xb, j, none⟩ = false := fun j => arr_frozen h.blk j
  clear h hr he
  go_enter Try.func21, Try.ntmps21
  go_wp2
  go_ret
  exact ⟨_, _, rfl, ⟨gS, cs, vT, _, vN, RR, Fs, HT.out.1, HE.out.1, HE.out.2⟩, HT.out.2.1, HT.out.2.2, fun g hg => ⟨HFV.out g hg, fun hk => hk.2 hg⟩⟩

end Go.Proofs.Ytajphdppmdoalaa

namespace Go.Proofs.Ytajphdppmdoalaa
open Go.RowKit
set_option linter.unusedVariables false

/-- The entries of a replica, as they come about. -/
theorem few_of (S : Cl) (hs : Sml S) (o : Int) (R : List PE) (hR : R.map PE.e = entsM S o) : PFew R ∧ (∀ r ∈ R, EOK r.e) ∧ R.length ≤ 3 ∧ (∀ r ∈ R, r.e.pcs.length ≤ 900) ∧ (∀ r ∈ R, 0 ≤ S.now - r.e.born ∧ S.now - r.e.born ≤ 2000000000000) := by
  have hm : ∀ r ∈ R, r.e ∈ S.ents := by
    intro r hr
    have : r.e ∈ R.map PE.e := List.mem_map_of_mem hr
    rw [hR, entsM] at this
    exact (List.mem_filter.1 this).1
  have hl : R.length ≤ 3 := by
    have h1 := hs.cok.few o
    rw [← hR, List.length_map] at h1
    exact h1
  have hk : ∀ r ∈ R, EOK r.e := fun r hr => (hs.cok.ents _ (hm r hr)).1
  have h9 : ∀ r ∈ R, r.e.pcs.length ≤ 92 := fun r hr => pcs_few _ (hk r hr) (hs.ents _ (hm r hr)).pcs
  have hn := hs.now
  refine ⟨⟨by omega, fun r hr => ⟨Nat.le_trans (h9 r hr) (by omega), fun q hq => ?_⟩⟩, hk, hl, fun r hr => Nat.le_trans (h9 r hr) (by omega), fun r hr => ?_⟩
  · have h1 := (hk r hr).pos q hq
    have h2 := (hs.ents _ (hm r hr)).pcs q hq
    omega
  · have h1 := (hs.ents _ (hm r hr)).born
    omega

set_option maxRecDepth 100000 in
set_option maxHeartbeats 1600000 in
theorem held_no (xb : Nat) (k : Int) (S : Cl) (F : Nat → Prop) (w : World) (h : PrIs w xb S F) (hk : k < 0 ∨ S.reps ≤ k) :
    Calls Try.prog 22 #[.pointer (some ⟨xb, 0, none⟩), .int .i64 k] w fun e w' => e = .returned (.tuple #[.agg #[.int .i64 0, .int .i64 0, .int .i64 0], .int .i64 1]) ∧ Below w.heap.size w w' := by
  obtain ⟨gS, cs, vT, vV, vN, RR, Fs, h, hr, he⟩ := h
  rw [hr] at hk
  have hyb := h.lt
  have dY := arr_cell h.blk
  clear h
  generalize cs.size = N at *
  by_cases h0 : k < 0
  · clear hk
    go_enter Try.func22, Try.ntmps22
    go_wp2
    refine bodyPost_ret (v := .tuple #[.agg #[.int .i64 0, .int .i64 0, .int .i64 0], .int .i64 1]) ?_ rfl ⟨rfl, ?_⟩
    all_goals go_light
    · simp [results, Try.results22, go_sem]
    · repeat' first | with_reducible exact Below.refl _ _ | with_reducible refine Below.setCell ?_ ?_ _ | with_reducible refine Below.alloc ?_ ?_ _
      all_goals (simp; try omega)
  · have h1 : k ≥ (N : Int) := by omega
    clear hk
    go_enter Try.func22, Try.ntmps22
    go_wp2
    refine bodyPost_ret (v := .tuple #[.agg #[.int .i64 0, .int .i64 0, .int .i64 0], .int .i64 1]) ?_ rfl ⟨rfl, ?_⟩
    all_goals go_light
    · simp [results, Try.results22, go_sem]
    · repeat' first | with_reducible exact Below.refl _ _ | with_reducible refine Below.setCell ?_ ?_ _ | with_reducible refine Below.alloc ?_ ?_ _
      all_goals (simp; try omega)

set_option maxRecDepth 100000 in
set_option maxHeartbeats 1600000 in
theorem held_yes (xb k : Nat) (S : Cl) (F : Nat → Prop) (w : World) (h : PrIs w xb S F) (hs : Sml S) (hk : (k : Int) < S.reps) :
    Calls Try.prog 22 #[.pointer (some ⟨xb, 0, none⟩), .int .i64 k] w fun e w' => e = .returned (.tuple #[.agg #[.int .i64 (entsM S k).length, .int .i64 (heldN S k), .int .i64 (heldB S k)], .int .i64 0]) ∧ Below w.heap.size w w' := by
  obtain ⟨gS, cs, vT, vV, vN, RR, Fs, h, hr, he⟩ := h
  rw [hr] at hk
  have hkn : k < cs.size := by omega
  obtain ⟨vE, hcE, hst⟩ := h.st k hkn
  have hm := he k hkn
  obtain ⟨f1, f2, f3, f4, f5⟩ := few_of S hs k (RR k) hm
  have HB0 : Hid (Below w.heap.size w (w.alloc (.cells #[.int .i64 0, .int .i64 0, .int .i64 0] 58))) := (Below.refl _ _).alloc (Nat.le_refl _) _
  have hgS : gS < w.heap.size := h.flt gS h.fg
  have HL := hide (load_any gS k vE (RR k) S.now (Fs k) _ (Nat.lt_of_lt_of_le hgS HB0.out.size) ((arr_cell ((HB0.out.block gS hgS).trans h.stB) k).trans hcE) (hst.below HB0.out) f1)
  have e1 : (RR k).length = (entsM S k).length := by rw [← hm, List.length_map]
  have e2 : heldL (RR k) = (entsM S k).flatMap waitL := by rw [heldL, hm]
  have e3 : ((entsM S k).flatMap waitL).length = heldN S k := rfl
  have e4 : bytesL ((entsM S k).flatMap waitL) = heldB S k := rfl
  rw [e1, e2, e3, e4] at HL
  have hyb := h.lt
  have dY := arr_cell h.blk
  clear h hst hm e1 e2 e3 e4 f1 f2 f3 f4 f5 he
  generalize (entsM S k).length = E at *
  generalize heldN S k = P0 at *
  generalize heldB S k = B at *
  generalize cs.size = N at *
  go_enter Try.func22, Try.ntmps22
  go_wp2_with fail
  refine HL.out.mono ?_
  rintro e w2 ⟨rfl, hb2⟩
  have HX : Hid (w2.heap[w.heap.size]? = some (.cells #[.int .i64 0, .int .i64 0, .int .i64 0] 58 (0, 0))) := (hb2.block _ (by simp)).trans (heap_alloc_new _ _)
  have HB2 : Hid (Below w.heap.size w w2) := HB0.out.trans (hb2.mono (by simp))
  have dX := arr_cell HX.out
  have fX := arr_frozen HX.out
  have hz2 : w.heap.size < w2.heap.size := lt_of_block HX.out
  clear hb2 HL dY
  go_wp2
  have h3 := put3 (t := 58) HX.out (.int .i64 E) (.int .i64 P0) (.int .i64 B)
  generalize ((w2.setCell ⟨w.heap.size, 0, none⟩ _).setCell ⟨w.heap.size, 1, none⟩ _).setCell ⟨w.heap.size, 2, none⟩ _ = wF at h3 ⊢
  have dF := arr_cell h3.1
  have hzF : w.heap.size < wF.heap.size := lt_of_block h3.1
  have HBF : Hid (Below w.heap.size w wF) := HB2.out.trans (h3.2.to_below (by omega) (fun k hk => by omega))
  clear dX fX
  refine bodyPost_ret (v := .tuple #[.agg #[.int .i64 E, .int .i64 P0, .int .i64 B], .int .i64 0]) ?_ rfl ⟨rfl, HBF.out⟩
  go_light
  simp [results, Try.results22, go_sem, dF]

set_option maxRecDepth 100000 in
set_option maxHeartbeats 1600000 in
theorem flying_any (xb : Nat) (S : Cl) (F : Nat → Prop) (w : World) (h : PrIs w xb S F) (hn : S.sent.length ≤ 2000000000000) :
    Calls Try.prog 24 #[.pointer (some ⟨xb, 0, none⟩)] w fun e w' => ∃ v, e = .returned v ∧ w'.ownsRow w.heap.size 91 3 v S.sent.length (S.sent.flatMap Snt.fly) ∧ Below w.heap.size w w' := by
  obtain ⟨gS, cs, vT, vV, vN, RR, Fs, h, hr, he⟩ := h
  obtain ⟨i0, hi, hz0, hz1, hz2⟩ := info_parts Try.infoFl
  have HI := hide (And.intro hi (And.intro hz0 (And.intro hz1 hz2)))
  clear hi hz0 hz1 hz2
  have HH := hide h
  have hyb := h.lt
  obtain ⟨ao, cap, hvN⟩ := own_slice h.rN
  subst hvN
  have dN : w.cell? ⟨xb, 5, none⟩ = some (.slice ao S.sent.length cap) := arr_cell h.blk 5
  clear h hr he
  go_enter Try.func24, Try.ntmps24
  go_wp2_with fail
  go_loopw [11, 3] (fun i l wr => ∃ j : Nat, j ≤ S.sent.length ∧ i = .int .i64 j ∧ Hid (wr.ownsRow w.heap.size 91 3 l j ((S.sent.take j).flatMap Snt.fly)) ∧ Hid (Below w.heap.size w wr)) (fun i _ _ => S.sent.length - (intOf i).toNat)
  case atStart => exact ⟨0, Nat.zero_le _, rfl, World.ownsRow_nil _ _ _ _, Below.refl _ _⟩
  case round =>
    obtain ⟨j, hj, rfl, HO, HB⟩ := hrel
    by_cases hlt : j < S.sent.length
    · obtain ⟨g, q, hgq⟩ := own_some HH.out.rN (by omega)
      rw [Value.slice.injEq] at hgq
      obtain ⟨rfl, _, rfl⟩ := hgq
      have hN := (HH.out.below HB.out).rN
      have hgz : g < wr.heap.size := (hN.lt g rfl).2
      obtain ⟨s, hr⟩ : ∃ s, S.sent[j]? = some s := ⟨_, List.getElem?_eq_getElem hlt⟩
      have c0 : wr.cell? ⟨g, j * 13, none⟩ = _ := row_get Snt.pcells Snt.plen hN j s hr 0 _ rfl
      have c1 := row_get Snt.pcells Snt.plen hN j s hr 1 _ rfl
      have c2 := row_get Snt.pcells Snt.plen hN j s hr 2 _ rfl
      have c3 := row_get Snt.pcells Snt.plen hN j s hr 3 _ rfl
      have c4 := row_get Snt.pcells Snt.plen hN j s hr 4 _ rfl
      have c5 := row_get Snt.pcells Snt.plen hN j s hr 5 _ rfl
      have c6 := row_get Snt.pcells Snt.plen hN j s hr 6 _ rfl
      have c7 := row_get Snt.pcells Snt.plen hN j s hr 7 _ rfl
      have c8 := row_get Snt.pcells Snt.plen hN j s hr 8 _ rfl
      have c9 := row_get Snt.pcells Snt.plen hN j s hr 9 _ rfl
      have c10 := row_get Snt.pcells Snt.plen hN j s hr 10 _ rfl
      have c11 := row_get Snt.pcells Snt.plen hN j s hr 11 _ rfl
      have c12 := row_get Snt.pcells Snt.plen hN j s hr 12 _ rfl
      have HST : Hid ((S.sent.take (j + 1)).flatMap Snt.fly = (S.sent.take j).flatMap Snt.fly ++ [.int .i64 s.seq, .int .i64 s.frm, .int .i64 s.to]) := by show _ = _; rw [List.take_add_one, hr]; simp [Snt.fly]
      have hsz : w.heap.size ≤ wr.heap.size := HB.out.size
      obtain ⟨hi, hz0, hz1, hz2⟩ := HI.out
      clear hN hr
      go_wp2_with (at_builtin; refine wpList_append_own _ rfl (.tmp 15) (.tmp 18) 66 rfl w.heap.size 91 i0 _ 3 24 Try.underlying66 hi hz0 hz1 hz2 rfl (by decide) _ _ _ rfl ((HO.out.alloc _).alloc _) ⟨wr.heap.size + 1, 0, none⟩ 1 1 [.int .i64 s.seq, .int .i64 s.frm, .int .i64 s.to] rfl rfl (news2 _ _ _ _) (by simp [Value.oneCell']) (by unfold maxLen; omega) (by omega) (by simp; omega) ?_)
      intro v2 w2 hown hgrow hiff
      rw [← HST.out] at hown
      have HO2 := hide hown
      have HB2 : Hid (Below w.heap.size w w2) := ((HB.out.alloc hsz _).alloc (by simp; omega) _).grown hgrow (by simp; omega) (fun k hk => (HO.out.lt k hk).1)
      clear hown hgrow hiff
      go_wp2
      go_roundw
      case rel => exact ⟨j + 1, by omega, by go_num, HO2.out, HB2.out⟩
      case measure => simp [intOf]; omega
    · obtain rfl : j = S.sent.length := by omega
      rw [List.take_length] at HO
      go_wp2
      go_ret
      exact ⟨_, rfl, HO.out, HB.out⟩

end Go.Proofs.Ytajphdppmdoalaa

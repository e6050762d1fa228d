import Derived.Test.YtajphdppmdoalaaZQYtoQY
import Derived.Test.YtajphdppmdoalaaZQMtoQQ
import Derived.Test.YtajphdppmdoalaaZJ1toLP
import Derived.Test.YtajphdppmdoalaaRows
import Derived.Test.YtajphdppmdoalaaZQItoQI
import Derived.WalkKit
import Derived.ProofKit
import Derived.OpenShut
import Derived.ShutString
import Derived.ChangeOld
import Derived.Below
import Derived.SizedLaws
import Derived.Deep.Slices
namespace Go.Proofs.Ytajphdppmdoalaa
open Go.RowKit
set_option linter.unusedVariables false

theorem last_gaps (m u : Nat) (r : List Nat) (h : gapsLe m u r) : lastU u r ≤ u + m * r.length := by
  induction r generalizing u with
  | nil => simp [lastU]
  | cons v r ih =>
    have h1 := ih v h.2
    have h2 := h.1
    simp only [lastU, List.length_cons]
    rw [Nat.mul_succ]
    omega
theorem later_le (l : List Pk) : laterB l ≤ (l.map (fun p => (p.dlen : Int))).sum := by
  unfold laterB
  induction l with
  | nil => simp
  | cons p l ih =>
    rw [List.filter_cons]
    split
    · simp only [List.map_cons, List.sum_cons]
      omega
    · simp only [List.map_cons, List.sum_cons]
      omega
/-- The later pieces of a datagram of up to four have no more than a replica may hold back. -/
theorem later_cut (src dst proto id sport dport : Int) (r : List Nat) (t : Nat) (h : rises 0 r) (hg : gapsLe 3 0 r) (hr : r ≠ []) (hl : r.length ≤ 3) (ht : t ≤ 20) : laterB (cutD src dst proto id sport dport 0 r t) ≤ 48 := by
  cases r with
  | nil => exact absurd rfl hr
  | cons v r =>
    have h1 := last_gaps 3 v r hg.2
    have h2 := cut_sum src dst proto id sport dport v r t h.2
    have h3 := later_le (cutD src dst proto id sport dport v r t)
    have h4 : laterB (cutD src dst proto id sport dport 0 (v :: r) t) = laterB (cutD src dst proto id sport dport v r t) := by
      rw [cutD]
      rfl
    simp only [List.length_cons] at hl
    rw [h4]
    have h5 : 3 * r.length ≤ 6 := by omega
    omega
theorem tg_facts (src dst id proto sport dport tail : Int) (N o : Nat) (L : List PV) (l : List Int) (hb : BkOK l) (h : DgOK src dst id proto sport dport 2 (pk tail 20) L) (h4 : L.length ≤ 4) (ho : dgH src dst proto id % (N : Int) = (o : Int)) (E : Int) (hF : DgF sport dport (kP src dst proto id) (L.map PV.p) E) :
    TgF N o (tofP src dst proto sport dport l) (kP src dst proto id) (tblOf l) (L.map PV.p) E := by
  refine ⟨hF.dat, hF.piece, fun p hp => ?_, (tbl_full l hb).2, fun p hp h0 => ?_, ?_⟩
  · obtain ⟨g1, g2, g3, g4⟩ := hF.dat.same p hp
    rw [← g1, ← g2, ← g3, ← g4]
    exact ho
  · obtain ⟨i, hi⟩ := List.getElem?_of_mem hp
    obtain rfl := hF.later i p hi h0
    obtain ⟨_, f2, f3⟩ := hF.first p hi
    obtain ⟨g1, g2, g3, g4⟩ := hF.dat.same p hp
    unfold tofP
    rw [f2, f3, ← g1, ← g2, ← g3]
    rfl
  · obtain ⟨r, t, h1, h2, h3, h5, h6, h7, h8⟩ := h
    have hlen := congrArg List.length h1
    rw [List.length_map, cut_length] at hlen
    have hp := pk_bd tail 20 (by decide)
    have ht : (t : Int) ≤ 20 := by
      rw [h8]
      unfold pk
      rw [if_neg (by have := hp.1; unfold pk at this; omega)]
      have h9 := Int.emod_lt_of_pos (pk tail 20) (show (0 : Int) < 32 by decide)
      have h10 : pk tail 20 % 32 = pk tail 20 := Int.emod_eq_of_lt hp.1 (by omega)
      have : (if tail < 0 then -(tail + 1) % 20 else tail % 20) = pk tail 20 := rfl
      rw [this, h10]
      omega
    rw [h1]
    exact later_cut src dst proto id sport dport r t h2 h3 (by rintro rfl; simp at h6) (by omega) (by omega)
theorem all_in (arr : List Nat) (m : Nat) (hn : arr.Nodup) (hl : ∀ k ∈ arr, k < m) (hm : arr.length = m) : ∀ j, j < m → j ∈ arr := by
  intro j hj
  by_cases h : j ∈ arr
  · exact h
  · exfalso
    have hn2 : (j :: arr).Nodup := List.nodup_cons.2 ⟨h, hn⟩
    have := hn2.length_le_of_subset (l₂ := List.range m) (fun k hk => by
      rcases List.mem_cons.1 hk with rfl | hk
      · exact List.mem_range.2 hj
      · exact List.mem_range.2 (hl k hk))
    rw [List.length_range, List.length_cons] at this
    omega

def TogX (src dst proto id sport dport : Int) (N o : Nat) (l : List Int) (L : List PV) : Prop := BkOK l ∧ ∃ E, DgF sport dport (kP src dst proto id) (L.map PV.p) E ∧ TgF N o (tofP src dst proto sport dport l) (kP src dst proto id) (tblOf l) (L.map PV.p) E
def TogI0 (w0 : World) (src dst proto id sport dport : Int) (N o : Nat) (l : List Int) (base g cv : Nat) (L : List PV) (xb : Nat) (wz : World) : Prop :=
  TogX src dst proto id sport dport N o l L ∧ Bes w0 base g cv L xb (fun _ => False) (backM (Cl.new N 1) (tblOf l)) wz
def TogQ (w0 : World) (src dst proto id sport dport : Int) (N o : Nat) (l : List Int) (m xb j : Nat) (wz : World) : Prop :=
  ∃ ps E S come, TgF N o (tofP src dst proto sport dport l) (kP src dst proto id) (tblOf l) ps E ∧ (∃ p ∈ ps, p.off = 0) ∧ TgS N o (tofP src dst proto sport dport l) (kP src dst proto id) (tblOf l) ps [] (m + 1) [⟨m, 0, tofP src dst proto sport dport l⟩] come S ∧ S.sent.length = j ∧ At w0 (fun _ => False) xb S wz
def TogR (w0 : World) (N : Nat) (xb : Nat) (wz : World) : Prop := ∃ S, Good S ∧ S.reps = (N : Int) ∧ S.ents = [] ∧ At w0 (fun _ => False) xb S wz
def TogR2 (w0 : World) (N : Nat) (xb tb : Nat) (wz : World) : Prop := ∃ S, Good S ∧ S.reps = (N : Int) ∧ S.ents = [] ∧ w0.heap.size ≤ tb ∧ At w0 (fun k => k = tb) xb S wz

theorem Bes.at {w wz : World} {base g cv : Nat} {L : List PV} {xb : Nat} {E : Nat → Prop} {S : Cl} (h : Bes w base g cv L xb E S wz) : At w E xb S wz := by
  obtain ⟨w1, h1, h2, h3, h4⟩ := h
  exact h4.less (fun k hk => .inr hk)
/-- Beside the row of packets a block ub that came about behind it. -/
def BesU (w : World) (base g cv : Nat) (L : List PV) (xb ub : Nat) (S : Cl) (wz : World) : Prop :=
  ∃ w1, PkL w1 base (.slice (some ⟨g, 0, none⟩) L.length cv) L ∧ g < w1.heap.size ∧ w1.heap.size ≤ ub ∧ Kp (fun k => base ≤ k ∧ k < w1.heap.size) w1 wz ∧ At w (fun k => (base ≤ k ∧ k < w1.heap.size) ∨ k = ub) xb S wz
def TogI (w0 : World) (src dst proto id sport dport : Int) (N o : Nat) (l : List Int) (base g cv : Nat) (L : List PV) (xb ub : Nat) (arr : List Nat) (wz : World) : Prop :=
  TogX src dst proto id sport dport N o l L ∧ arr.Nodup ∧ (∀ k ∈ arr, k < L.length) ∧ w0.heap.size ≤ ub ∧ ub < wz.heap.size ∧ ∃ S come, TgS N o (tofP src dst proto sport dport l) (kP src dst proto id) (tblOf l) (L.map PV.p) (Uof (L.map PV.p) arr) arr.length [] come S ∧ BesU w0 base g cv L xb ub S wz
theorem BesU.bes {w wz : World} {base g cv : Nat} {L : List PV} {xb ub : Nat} {S : Cl} (h : BesU w base g cv L xb ub S wz) : Bes w base g cv L xb (fun k => k = ub) S wz := by
  obtain ⟨w1, h1, h2, h3, h4, h5⟩ := h
  exact ⟨w1, h1, h2, h4, h5⟩
theorem BesU.below {w wz w' : World} {base g cv : Nat} {L : List PV} {xb ub : Nat} {S : Cl} (h : BesU w base g cv L xb ub S wz) (hb : Below wz.heap.size wz w') : BesU w base g cv L xb ub S w' := by
  obtain ⟨w1, h1, h2, h3, h4, h5⟩ := h
  exact ⟨w1, h1, h2, h3, h4.trans (Kp.below hb), h5.below hb⟩
theorem BesU.set {w wz : World} {base g cv : Nat} {L : List PV} {xb ub : Nat} {S : Cl} (h : BesU w base g cv L xb ub S wz) (h0 : w.heap.size ≤ ub) (j : Nat) (u : Value) : BesU w base g cv L xb ub S (wz.setCell ⟨ub, j, none⟩ u) := by
  obtain ⟨w1, h1, h2, h3, h4, h5⟩ := h
  have ho : Only (fun k => k = ub) wz (wz.setCell ⟨ub, j, none⟩ u) := (Only.refl (fun k => k = ub) wz).setCell (fun _ => rfl) u
  exact ⟨w1, h1, h2, h3, h4.trans (ho.mono (fun k _ hk hg => by have := hg.2; omega)), h5.set ⟨ub, j, none⟩ (.inr rfl) h0 u⟩
theorem Bes.withU {w wz w' : World} {base g cv : Nat} {L : List PV} {xb : Nat} {S : Cl} (h : Bes w base g cv L xb (fun _ => False) S wz) (hb : Below wz.heap.size wz w') (ub : Nat) (h1 : wz.heap.size ≤ ub) (h2 : ub < w'.heap.size) : BesU w base g cv L xb ub S w' := by
  obtain ⟨w1, a1, a2, a3, a4⟩ := h
  refine ⟨w1, a1, a2, Nat.le_trans a3.size h1, a3.trans (Kp.below hb), (a4.plus hb ub h1 h2).less (fun k hk => ?_)⟩
  rcases hk with hk | hk
  · exact .inl (.inl hk)
  · exact .inr hk
theorem besu_arrive (w wz w1 : World) (base g cv : Nat) (L : List PV) (xb ub : Nat) (S : Cl) (h : BesU w base g cv L xb ub S wz) (hg : Good S) (rep : Int) (x : PV) (hx : PkG x.p) (b n cb : Nat) (hb : Below wz.heap.size wz w1) (hrow : w1.ownsRow wz.heap.size 5 1 (.slice (some ⟨b, 0, none⟩) n cb) n (x.bytes.map (Value.int .u8))) (hn : S.next ≤ 1900000000000) (hr0 : 0 ≤ rep) (hr1 : rep < S.reps) :
    Calls Try.prog 19 #[.pointer (some ⟨xb, 0, none⟩), .int .i64 rep, .slice (some ⟨b, 0, none⟩) n cb] w1 fun e w' => e = .returned (.tuple #[.int .i64 S.next, .int .i64 0]) ∧ BesU w base g cv L xb ub (arriveM S rep (some x.p)) w' ∧ w'.heap[ub]? = wz.heap[ub]? ∧ wz.heap.size ≤ w'.heap.size ∧ Good (arriveM S rep (some x.p)) := by
  obtain ⟨o1, o2, o3, o4⟩ := owns_has hrow
  have hlt := hrow.lt b rfl
  obtain ⟨wp, a1, a2, a3, a4, a5⟩ := h
  have hub := a5.lt ub (.inr rfl)
  refine (at_arrive xb S _ rep x.bytes b n cb w w1 (a5.plus hb b hlt.1 hlt.2) hg.sml hg.uq hn hr0 hr1 o2 o3 o4 o1 (bytes_bd x hx) (.inr rfl)).mono ?_
  rintro e w' ⟨rfl, b1, b2⟩
  have hgd := good_arrive S rep (upK x.bytes) hg (by omega) (fun p hp => upK_ok x.bytes (bytes_bd x hx) p hp)
  rw [bytes_up x hx] at b1 hgd
  refine ⟨rfl, ⟨wp, a1, a2, a3, (a4.trans (Kp.below hb)).trans (b2.less (fun k hk => .inl (.inl hk))), b1.less (fun k hk => .inl hk)⟩, ?_, Nat.le_trans hb.size b2.size, hgd⟩
  exact (b2.block ub (Nat.lt_of_lt_of_le hub hb.size) (fun hh => hh (.inl (.inr rfl)))).trans (hb.block ub hub)

set_option maxHeartbeats 800000 in
theorem together_any (src dst id proto sport dport tail replicas backends : Int) (zs os : List Int) (n cap no capo : Nat) (ao ad : Option Addr) (w : World) (hfl : FlOK src dst id proto sport dport) (hl : zs.length = n) (hz : ∀ z ∈ zs, -9223372036854775808 ≤ z ∧ z ≤ 9223372036854775807) (hd : HasZ w ao zs) (hn : n ≤ 9223372036854775807) (hlo : os.length = no) (hzo : ∀ z ∈ os, -9223372036854775808 ≤ z ∧ z ≤ 9223372036854775807) (hdo : HasZ w ad os) (hno : no ≤ 9223372036854775807) (hcap : n ≤ cap) (hcm : cap ≤ maxLen) (ht : -9223372036854775808 ≤ tail ∧ tail ≤ 9223372036854775807) (hbk : -9223372036854775808 ≤ backends ∧ backends ≤ 9223372036854775807) (hrp : -9223372036854775808 ≤ replicas ∧ replicas ≤ 9223372036854775807) :
    Calls Try.prog 6 #[.agg #[.int .u16 src, .int .u16 dst, .int .u16 id, .int .u8 proto, .int .u16 sport, .int .u16 dport], .slice ao n cap, .int .i64 tail, .int .i64 replicas, .int .i64 backends, .slice ad no capo] w fun e w' => e = .returned (.bool true) ∧ Below w.heap.size w w' := by
  obtain ⟨f1, f2, f3, f4, f5, f6⟩ := hfl
  have b1 := pk_bd replicas 5 (by decide)
  obtain ⟨N, hN⟩ := Int.eq_ofNat_of_zero_le (show 0 ≤ 1 + pk replicas 5 by omega)
  have hN1 : 1 ≤ N ∧ N ≤ 5 := by omega
  have hdm := Int.emod_nonneg (dgH src dst proto id) (show (N : Int) ≠ 0 by omega)
  obtain ⟨o, ho⟩ := Int.eq_ofNat_of_zero_le hdm
  obtain ⟨w0, hw0⟩ : ∃ w0, w.alloc (.cells #[.int .u16 src, .int .u16 dst, .int .u16 id, .int .u8 proto, .int .u16 sport, .int .u16 dport] 24) = w0 := ⟨_, rfl⟩
  have hdo0 : HasZ w0 ad os := hdo.below (by rw [← hw0]; exact (Below.refl _ _).alloc (Nat.le_refl _) _)
  have hPD : ∀ L x, DgOK src dst id proto sport dport 2 (pk tail 20) L → x ∈ L → PkG x.p := by
    intro L x hdg hx
    obtain ⟨E, hF⟩ := dg_facts src dst id proto sport dport 2 (by omega) (pk tail 20) L hdg f1 f2 f4 f3 f5 f6
    exact hF.good x.p (List.mem_map_of_mem hx)
  have hPW : PkG ⟨src, dst, proto, id, 0, false, sport, dport, 0⟩ := ⟨f1, f2, f4, f3, ⟨by simp, by simp⟩, f5, f6, by simp [wfB]⟩
  have hQs : ∀ l m xb j wz, TogQ w0 src dst proto id sport dport N o l m xb j wz → HasZ wz ad os := by
    rintro l m xb j wz ⟨ps, E, S, come, h1, h2, h3, h4, h5⟩
    exact hdo0.below h5.bel
  refine together_core src dst id proto sport dport tail replicas backends zs os n cap no capo N ao ad w hl hz hd hn hlo hzo hdo hno hcap hcm ht hbk hrp hN w0 hw0 (tofP src dst proto sport dport)
    (fun l xb wz => BkOK l ∧ At w0 (fun _ => False) xb (backM (Cl.new N 1) (tblOf l)) wz) (TogI0 w0 src dst proto id sport dport N o) (TogI w0 src dst proto id sport dport N o) (TogQ w0 src dst proto id sport dport N o) (TogR w0 N) (TogR2 w0 N)
    (hide ?_) (hide ?_) (hide ?_) (hide ?_) (hide ?_) (hide ?_) (hide ?_) (hide ?_) (hide ?_) (hide ?_) (hide ?_) (hide ?_) (hide ?_) (hide ?_) (hide ?_) (hide ?_) (hide ?_) (hide ?_) (hide ?_)
  · intro l va vc wz hbz hl' hh
    refine (at_begun N 1 l va l.length vc w0 wz hbz (by omega) (by omega) (by omega) (by omega) rfl hh hl'.2.2.1 hl'.2.2.2 (by rw [tE_nd l hl'.1 hl'.2.1 hl'.2.2.1 hl'.2.2.2]; decide)).mono ?_
    rintro e w' ⟨xb, rfl, h1, h2⟩
    exact ⟨xb, rfl, ⟨hl', h1.less (fun _ h => h.elim)⟩, h2⟩
  · rintro l xb wz w' ⟨h1, h2⟩ hb
    exact ⟨h1, h2.below hb⟩
  · rintro l xb wz w1 g cv L ⟨hb', hA⟩ hb hpk hdg hL4
    obtain ⟨E, hF⟩ := dg_facts src dst id proto sport dport 2 (by omega) (pk tail 20) L hdg f1 f2 f4 f3 f5 f6
    exact ⟨⟨hb', E, hF, tg_facts src dst id proto sport dport tail N o L l hb' hdg hL4 ho E hF⟩, Bes.start hA hb hpk⟩
  · rintro l base g cv L xb aq cq wz w1 ⟨hX, hB⟩ hb
    obtain ⟨G, hA, hE, hst⟩ := (hB.below hb).step
    refine (at_choose xb _ G src dst proto id 0 false sport dport aq 0 cq w0 w1 hA (tbl_full l hX.1).1 f1.1 f1.2 f2.1 f2.2 f4.1 f4.2 f3.1 f3.2 (by omega) (by omega) f5.1 f5.2 f6.1 f6.2).mono ?_
    rintro e w' ⟨rfl, a1, a2⟩
    exact ⟨rfl, hX, hst _ w' a1 (Kp.below a2)⟩
  · rintro l base g cv L xb wz w1 ub ⟨hX, hB⟩ hb h1 h2
    refine ⟨hX, List.nodup_nil, by simp, Nat.le_trans hB.bel.size h1, h2, backM (Cl.new N 1) (tblOf l), [], ⟨good_back _ _ (good_new N 1 (by omega) (by omega) (by omega)) (tblOf_len _) (tbl_bd' _), rfl, rfl, rfl, rfl, by simp [Cl.new, backM], by simp [Cl.new, backM], ?_, List.Perm.refl _⟩, hB.withU hb ub h1 h2⟩
    rw [Uof_nil]
    exact TI.start _ rfl _ _ _ _ _
  · rintro l base g cv L xb ub arr wz ⟨_, _, _, _, _, S, come, _, hB⟩
    exact ⟨hB.bes.pk.1, hB.bes.pk.2, hB.bes.bel⟩
  · rintro l base g cv L xb ub arr wz j u ⟨h1, h2, h3, h4, h5, S, come, h6, hB⟩
    exact ⟨h1, h2, h3, h4, by simpa [World.setCell] using h5, S, come, h6, hB.set h4 j u⟩
  · rintro l base g cv L xb ub arr wz w' ⟨h1, h2, h3, h4, h5, S, come, h6, hB⟩ hb
    exact ⟨h1, h2, h3, h4, Nat.lt_of_lt_of_le h5 hb.size, S, come, h6, hB.below hb⟩
  · intro L x base wz hdg hx hv
    exact packed_pv x base wz (hPD L x hdg hx) hv
  · intro aq cq wz hh hnil
    have := packed_yes src dst proto id 0 false sport dport aq 0 cq (fl 0 0) wz f1.1 f1.2 f2.1 f2.2 f4.1 f4.2 f3.1 f3.2 (by omega) (by omega) f5.1 f5.2 f6.1 f6.2 rfl hnil hh (by simp [wfB])
    exact this
  · rintro l base g cv L xb ub arr k x rep gb ln cb wz w1 hx hk hr0 hr1 ⟨⟨hb', E, hF, hT⟩, h2, h3, h4, h5, S, come, h6, hB⟩ hb hrow
    have hx' := map_get hx
    have hkl := (List.getElem?_eq_some_iff.1 hx).1
    have hg := hF.good x.p (List.mem_of_getElem? hx')
    have htwo := hF.two
    have hnx := h6.next
    have hal : arr.length ≤ L.length := by
      have := h2.length_le_of_subset (l₂ := List.range L.length) (fun j hj => List.mem_range.2 (h3 j hj))
      rwa [List.length_range] at this
    have hml : (L.map PV.p).length = L.length := List.length_map _
    refine (besu_arrive w0 wz w1 base g cv L xb ub S hB h6.good rep x hg gb ln cb hb hrow (by omega) hr0 (by rw [h6.reps]; exact hr1)).mono ?_
    rintro e w' ⟨rfl, a1, a2, a3, a4⟩
    obtain ⟨come', hc⟩ := tg_arrive N o _ _ _ _ E hT S come _ (Uof (L.map PV.p) (arr ++ [k])) arr.length x.p rep h6 (Uof_step (L.map PV.p) arr k x.p hx' hk) a4
    refine ⟨by rw [hnx], ⟨⟨hb', E, hF, hT⟩, ?_, ?_, h4, Nat.lt_of_lt_of_le h5 a3, _, come', ?_, a1⟩, a2⟩
    · rw [List.nodup_append]
      exact ⟨h2, by simp, fun a ha b hb2 => by rw [List.mem_singleton.1 hb2]; rintro rfl; exact hk ha⟩
    · intro j hj
      rcases List.mem_append.1 hj with hj | hj
      · exact h3 j hj
      · rw [List.mem_singleton.1 hj]
        exact hkl
    · rw [List.length_append]
      exact hc
  · rintro l base g cv L xb ub arr rep gb ln cb wz w1 hrep hal ⟨⟨hb', E, hF, hT⟩, h2, h3, h4, h5, S, come, h6, hB⟩ hb hrow
    have htwo := hF.two
    have hml : (L.map PV.p).length = L.length := List.length_map _
    have hnx := h6.next
    refine (besu_arrive w0 wz w1 base g cv L xb ub S hB h6.good rep ⟨⟨src, dst, proto, id, 0, false, sport, dport, 0⟩, 0, none, 0⟩ hPW gb ln cb hb hrow (by omega) (by omega) (by rw [h6.reps]; omega)).mono ?_
    rintro e w' ⟨rfl, a1, a2, a3, a4⟩
    have hU := Uof_all (L.map PV.p) arr (fun j hj => all_in arr L.length h2 h3 hal j (by rw [hml] at hj; exact hj))
    rw [hU] at h6
    have hw := tg_whole N o _ _ _ _ E hT S come [] arr.length ⟨src, dst, proto, id, 0, false, sport, dport, 0⟩ rep h6 rfl (by
      unfold chosenM tofP
      rw [h6.slots]) a4
    have hcn := hw.cnt
    obtain ⟨p0, hp0⟩ : ∃ p, (L.map PV.p)[0]? = some p := ⟨_, List.getElem?_eq_getElem (by omega)⟩
    refine ⟨by rw [hnx, hal], _, ?_, L.map PV.p, E, _, come, hT, ⟨p0, List.mem_of_getElem? hp0, (hF.first p0 hp0).1⟩, by rw [hal] at hw; exact hw, rfl, a1.bes.at.less (fun _ hh => hh.elim)⟩
    have hcn2 : arr.length + 1 = come.length + (arriveM S rep (some ⟨src, dst, proto, id, 0, false, sport, dport, 0⟩)).sent.length + 1 := hcn
    show (arriveM S rep (some ⟨src, dst, proto, id, 0, false, sport, dport, 0⟩)).sent.length ≤ 8
    omega
  · intro l m xb j wz hj hq
    refine sent_core xb j no capo os ad wz (TogQ w0 src dst proto id sport dport N o l m xb) hlo hno (by omega) hzo hq (hide (fun j wz h => hQs l m xb j wz h)) (hide ?_) (hide ?_)
    · rintro j wz ⟨ps, E, S, come, h1, h2, h3, h4, h5⟩
      refine (at_flying xb S _ w0 wz h5 (by have := evs_few S h3.good.sml; have := h3.good.sml.next; omega)).mono ?_
      rintro e w' ⟨v, rfl, a1, a2, a3⟩
      rw [h4] at a1
      have hQ : TogQ w0 src dst proto id sport dport N o l m xb j w' := ⟨ps, E, S, come, h1, h2, h3, h4, a2⟩
      rcases own_shaped a1 with ⟨rfl, h0⟩ | ⟨g, cv, rfl⟩
      · exact ⟨none, 0, by rw [h0], hQ⟩
      · exact ⟨_, cv, rfl, hQ⟩
    · rintro j k wz hk ⟨ps, E, S, come, h1, h2, h3, h4, h5⟩
      refine (at_deliver xb k S _ w0 wz h5 h3.good (by omega)).mono ?_
      rintro e w' ⟨rfl, a1, a2⟩
      obtain ⟨come', hc, hc2⟩ := tg_deliver N o _ _ _ ps E h1 S come [] (m + 1) _ k h3 (by omega) (good_deliver S k h3.good)
      exact ⟨rfl, ps, E, _, come', h1, h2, hc, by omega, a1⟩
  · rintro l m xb wz ⟨ps, E, S, come, h1, h2, h3, h4, h5⟩
    obtain ⟨c1, c2, c3, c4⟩ := tg_end N o _ _ _ ps E h1 S come (m + 1) m h3 (List.eq_nil_of_length_eq_zero h4) rfl h2
    refine (at_take xb S _ w0 wz h5).mono ?_
    rintro e w' ⟨v, rfl, a1, a2, a3, a4⟩
    have a3' := a3
    rw [c2] at a3'
    rcases own_shaped a3' with ⟨_, hx⟩ | ⟨ge, ce, rfl⟩
    · omega
    refine ⟨ge, ce, S.evs, rfl, c2, (a3'.lt ge rfl).2, fun q v hq => ?_, c4, takeM S, good_take S h3.good, h3.reps, c1, a1.less (fun _ hh => hh.elim)⟩
    obtain ⟨d1, d2, d3⟩ := c3 v (List.mem_of_getElem? hq)
    have e0 := row_get Ev.cells Ev.len a3' q v hq 0 _ rfl
    have e1 := row_get Ev.cells Ev.len a3' q v hq 1 _ rfl
    have e2 := row_get Ev.cells Ev.len a3' q v hq 2 _ rfl
    rw [d2] at e1
    rw [d3] at e2
    exact ⟨⟨e0, e1, e2⟩, d1, d2, d3⟩
  · rintro xb wz w1 tb ⟨S, h1, h2, h3, h4⟩ hb h5 h6
    exact ⟨S, h1, h2, h3, Nat.le_trans h4.bel.size h5, (h4.plus hb tb h5 h6).less (fun k hk => .inr hk)⟩
  · rintro xb tb wz j u ⟨S, h1, h2, h3, h4, h5⟩
    exact ⟨S, h1, h2, h3, h4, h5.set ⟨tb, j, none⟩ rfl h4 u⟩
  · rintro xb tb wz ⟨S, h1, h2, h3, h4, h5⟩
    exact h5.bel
  · rintro xb tb wz w' ⟨S, h1, h2, h3, h4, h5⟩ hb
    exact ⟨S, h1, h2, h3, h4, h5.below hb⟩
  · rintro xb tb r wz hr ⟨S, h1, h2, h3, h4, h5⟩
    obtain ⟨e1, e2, e3⟩ := held_nil S h3 (r : Int)
    refine (at_held xb r S _ w0 wz h5 h1.sml (by rw [h2]; omega)).mono ?_
    rintro e w' ⟨rfl, a1, a2⟩
    exact ⟨by rw [e1, e2, e3]; rfl, S, h1, h2, h3, h4, a1⟩

end Go.Proofs.Ytajphdppmdoalaa

namespace Go.Proofs.Ytajphdppmdoalaa
open Go.ChangeShapes Go.WideShapes Go.ChangeAt Go.RowKit Go.Deep
set_option linter.unusedVariables false

theorem own3 : ownKnob Try.prog.godebug = none := by kernel_rfl
theorem laidOut3 : laidOutB Try.prog = true := by kernel_rfl
theorem cellsInt : Try.prog.cellsOf 3 = 1 := by kernel_rfl
theorem cellsFlow3 : Try.prog.cellsOf 24 = 6 := by kernel_rfl
theorem array6' {α : Type} {cs : Array α} (h : cs.size = 6) : ∃ c0 c1 c2 c3 c4 c5, cs = #[c0, c1, c2, c3, c4, c5] := by
  obtain ⟨l⟩ := cs
  match l, h with
  | [c0, c1, c2, c3, c4, c5], _ => exact ⟨c0, c1, c2, c3, c4, c5, rfl⟩

set_option maxRecDepth 100000 in
/-- A flow that came in. -/
theorem open_flow3 {H : Type} {enc : TypeId × Value → H} {w : World} {base b0 : Nat} {spare : Nat → Bool} {held : Bool} {r : Reach} {v : Value} {d : DataW H} {p : List MemPlace}
    (hv : Value.okWide Try.prog w r b0 24 v) (h : DataW.Trod enc Try.prog w base spare held 24 v d p) :
    ∃ src dst id proto sport dport : Int, v = .agg #[.int .u16 src, .int .u16 dst, .int .u16 id, .int .u8 proto, .int .u16 sport, .int .u16 dport] ∧ (Lit.int .u16 src).wf = true ∧ (Lit.int .u16 dst).wf = true ∧ (Lit.int .u16 id).wf = true ∧ (Lit.int .u8 proto).wf = true ∧ (Lit.int .u16 sport).wf = true ∧ (Lit.int .u16 dport).wf = true := by
  obtain ⟨cs, rfl, hsz⟩ := okWide_struct Try.underlying24 hv
  obtain ⟨c0, c1, c2, c3, c4, c5, rfl⟩ := array6' (hsz.trans cellsFlow3)
  obtain ⟨fuel, hf⟩ := h
  obtain ⟨xs, n, _, hx, hl, hlen, hg⟩ := DataW.trod_struct Try.underlying24 hf
  match xs, hlen with
  | [y0, y1, y2, y3, y4, y5], _ =>
    have g0 : DataW.trod enc Try.prog w base spare held n 22 [c0] = some y0 := hg 0 _ rfl
    have g1 : DataW.trod enc Try.prog w base spare held n 22 [c1] = some y1 := hg 1 _ rfl
    have g2 : DataW.trod enc Try.prog w base spare held n 22 [c2] = some y2 := hg 2 _ rfl
    have g3 : DataW.trod enc Try.prog w base spare held n 5 [c3] = some y3 := hg 3 _ rfl
    have g4 : DataW.trod enc Try.prog w base spare held n 22 [c4] = some y4 := hg 4 _ rfl
    have g5 : DataW.trod enc Try.prog w base spare held n 22 [c5] = some y5 := hg 5 _ rfl
    obtain ⟨a0, e0, _, w0⟩ := DataW.trod_int Try.underlying22 g0
    obtain ⟨a1, e1, _, w1⟩ := DataW.trod_int Try.underlying22 g1
    obtain ⟨a2, e2, _, w2⟩ := DataW.trod_int Try.underlying22 g2
    obtain ⟨a3, e3, _, w3⟩ := DataW.trod_int Try.underlying5 g3
    obtain ⟨a4, e4, _, w4⟩ := DataW.trod_int Try.underlying22 g4
    obtain ⟨a5, e5, _, w5⟩ := DataW.trod_int Try.underlying22 g5
    simp at e0 e1 e2 e3 e4 e5
    subst e0 e1 e2 e3 e4 e5
    exact ⟨a0, a1, a2, a3, a4, a5, rfl, w0, w1, w2, w3, w4, w5⟩

/-- A list of ints that came in. -/
theorem open_list {H : Type} {enc : TypeId × Value → H} {w : World} {ao : Option Addr} {n cap : Nat} {d : DataW H} {ps : List MemPlace}
    (h : DataW.Trod enc Try.prog w 0 (fun _ => true) true 41 (.slice ao n cap) d ps) :
    ∃ zs : List Int, zs.length = n ∧ HasZ w ao zs ∧ (∀ z ∈ zs, -9223372036854775808 ≤ z ∧ z ≤ 9223372036854775807) ∧ n ≤ 9223372036854775807 := by
  obtain ⟨fuel, hf⟩ := h
  have hf' : DataW.trod enc Try.prog w 0 (fun _ => true) true fuel 41 [.slice ao n cap] = some (d, ps) := by simpa [Value.cells] using hf
  rcases open_ints Try.underlying41 Try.underlying3 cellsInt hf' with ⟨hcs, _⟩ | ⟨a, len, cap', zs, hcs, _, hl, hm, hz, hx, hcell, hwz⟩
  · simp at hcs
    obtain ⟨rfl, rfl, rfl⟩ := hcs
    exact ⟨[], rfl, ⟨fun _ => rfl, fun h => absurd rfl h⟩, by simp, by decide⟩
  · simp at hcs
    obtain ⟨rfl, rfl, rfl⟩ := hcs
    have hz' : zs.length = cap := by simpa using hz
    refine ⟨zs.take n, by simp; omega, ⟨by simp, ?_⟩, ?_, ?_⟩
    · intro hne
      have hp : 0 < zs.length := by cases zs with | nil => simp at hne | cons _ _ => simp
      obtain ⟨b, o, rfl, hc⟩ := ints_at hcell hp
      refine ⟨b, o, rfl, World.block_lt_of_cell? w _ (by simpa using hc 0 hp), fun j hj => ?_⟩
      rw [List.length_take] at hj
      rw [hc j (by omega), List.getD_eq_getElem?_getD, List.getD_eq_getElem?_getD, List.getElem?_take_of_lt (by omega)]
    · intro z hzz
      exact bounds_i64 (hwz z (List.mem_of_mem_take hzz))
    · unfold maxLen at hm
      omega

end Go.Proofs.Ytajphdppmdoalaa

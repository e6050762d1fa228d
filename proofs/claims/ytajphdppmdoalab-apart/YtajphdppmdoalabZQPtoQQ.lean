import Derived.Test.YtajphdppmdoalabZQUtoQM
namespace Go.Proofs.Ytajphdppmdoalab
open Go.RowKit
set_option linter.unusedVariables false

/-- What a datagram's flow has, by the table of l. -/
def tofP (src dst proto sport dport : Int) (l : List Int) : Int := (tblOf l).getD ((flH src dst proto sport dport).toNat % 31) 0
def kP (src dst proto id : Int) : Pk := ⟨src, dst, proto, id, 0, false, 0, 0, 0⟩
/-- The state behind i pieces. -/
structure PinS (src dst proto id sport dport ob : Int) (l : List Int) (ps : List Pk) (i : Nat) (S : Cl) : Prop where
  good : Good S
  reps : S.reps = 1
  now : S.now = 0
  full : S.slots.length = 31
  slots : (i = 0 → S.slots = tblOf l) ∧ (2 ≤ i → S.slots = tblOf [ob])
  ti : TI S 0 0 (tofP src dst proto sport dport l) (kP src dst proto id) ps (comeP ps i) (ps.drop i)
  evs : (i < ps.length → S.evs = evP (tofP src dst proto sport dport l) i ∧ S.next = 2 * i) ∧ (i = ps.length → S.evs = evP (tofP src dst proto sport dport l) (ps.length - 1) ++ [⟨2 * (ps.length - 1), 0, tofP src dst proto sport dport l⟩] ∧ S.next = 2 * ps.length - 1)
theorem owner_zero (S : Cl) (h : S.reps = 1) (p : Pk) : ownerM S p = 0 := by
  unfold ownerM
  rw [h]
  omega
theorem kn_come (sport dport : Int) (k : Pk) (ps : List Pk) (E : Int) (hd : DgF sport dport k ps E) (i : Nat) (hi : 0 < i) (hil : i ≤ ps.length) : kn (comeP ps i) = true := by
  have h2 := hd.two
  obtain ⟨p0, hp0⟩ : ∃ p, ps[0]? = some p := ⟨_, List.getElem?_eq_getElem (by omega)⟩
  have hm : p0 ∈ (comeP ps i).map (·.2) := by
    rw [comeP_map]
    refine List.mem_of_getElem? (i := 0) ?_
    rw [List.getElem?_take_of_lt hi]
    exact hp0
  obtain ⟨x, hx, rfl⟩ := List.mem_map.1 hm
  unfold kn
  exact List.any_eq_true.2 ⟨x, hx, by rw [decide_eq_true (hd.first x.2 hp0).1]⟩
theorem tbl_full (l : List Int) (h : BkOK l) : (tblOf l).length = 31 ∧ tblOf l ≠ [] := by
  have h1 := tE_tbl l (tE_nd l h.1 h.2.1 h.2.2.1 h.2.2.2)
  rw [← h1.1] at h1
  have h2 := h1.2
  exact ⟨h2, fun hh => by rw [hh] at h2; cases h2⟩
/-- A piece comes that is the next one. -/
theorem pin_one (src dst proto id sport dport ob : Int) (l : List Int) (ps : List Pk) (E : Int) (i : Nat) (S : Cl) (p : Pk) (hd : DgF sport dport (kP src dst proto id) ps E) (h : PinS src dst proto id sport dport ob l ps i S) (hi : ps[i]? = some p) (hn : S.next ≤ 100) :
    ∃ S', S' = arriveM S 0 (some p) ∧ S'.reps = 1 ∧ S'.now = 0 ∧ S'.slots = S.slots ∧ S'.next = 2 * i + 1 ∧ S'.evs = evP (tofP src dst proto sport dport l) i ++ [⟨2 * i, 0, tofP src dst proto sport dport l⟩] ∧ TI S' 0 0 (tofP src dst proto sport dport l) (kP src dst proto id) ps (comeP ps (i + 1)) (ps.drop (i + 1)) := by
  have hil := (List.getElem?_eq_some_iff.1 hi).1
  have hev := h.evs.1 hil
  have hpm := List.mem_of_getElem? hi
  have har := arrive_come S 0 p (hd.piece p hpm) (owner_zero S h.reps p)
  have hti := h.ti.next (S.next + 1)
  rw [drop_at ps i p hi] at hti
  have hk : kn (comeP ps i) = true ∨ comeP ps i = [] ∧ p.off = 0 ∧ (0 : Int) = ({ S with next := S.next + 1 } : Cl).now ∧ chosenM { S with next := S.next + 1 } p = tofP src dst proto sport dport l ∧ ({ S with next := S.next + 1 } : Cl).slots ≠ [] := by
    by_cases hi0 : i = 0
    · subst hi0
      obtain ⟨f1, f2, f3⟩ := hd.first p hi
      obtain ⟨g1, g2, g3, g4⟩ := hd.dat.same p hpm
      refine .inr ⟨rfl, f1, h.now.symm, ?_, fun hh => ?_⟩
      · unfold chosenM tofP
        rw [f2, f3, ← g1, ← g2, ← g3]
        show S.slots.getD _ 0 = _
        rw [h.slots.1 rfl]
        rfl
      · have hf := h.full
        rw [show S.slots = [] from hh] at hf
        cases hf
    · exact .inl (kn_come sport dport _ ps E hd i (by omega) (by omega))
  obtain ⟨t1, t2, t3⟩ := ti_next { S with next := S.next + 1 } 0 0 (tofP src dst proto sport dport l) (kP src dst proto id) ps E (comeP ps i) (ps.drop (i + 1)) S.next p hd.dat hti (owner_zero _ h.reps p) hk (fun h0 => by
    have := hd.later i p hi h0
    subst this
    rfl)
  have hsm := piece_same { S with next := S.next + 1 } S.next p
  refine ⟨_, rfl, ?_⟩
  rw [har]
  refine ⟨hsm.1.trans h.reps, hsm.2.2.1.trans h.now, hsm.2.2.2.2.1, ?_, ?_, ?_⟩
  · rw [hsm.2.2.2.1]
    show S.next + 1 = _
    omega
  · rw [t2, hev.2]
    show S.evs ++ _ = _
    rw [hev.1]
  · rw [comeP_snoc ps i p hi]
    have := t1
    rw [hev.2] at this ⊢
    exact this

end Go.Proofs.Ytajphdppmdoalab

namespace Go.Proofs.Ytajphdppmdoalab
open Go.RowKit
set_option linter.unusedVariables false

/-- The flow's numbers are in their bounds. -/
def FlOK (src dst id proto sport dport : Int) : Prop := (0 ≤ src ∧ src ≤ 65535) ∧ (0 ≤ dst ∧ dst ≤ 65535) ∧ (0 ≤ id ∧ id ≤ 65535) ∧ (0 ≤ proto ∧ proto ≤ 255) ∧ (0 ≤ sport ∧ sport ≤ 65535) ∧ (0 ≤ dport ∧ dport ≤ 65535)
def PinI (w : World) (src dst proto id sport dport ob : Int) (l : List Int) (base g cv : Nat) (L : List PV) (xb i : Nat) (wz : World) : Prop :=
  BkOK l ∧ (∃ E, DgF sport dport (kP src dst proto id) (L.map PV.p) E) ∧ i ≤ L.length ∧ ∃ S, PinS src dst proto id sport dport ob l (L.map PV.p) i S ∧ (i = 1 → S.slots = tblOf l) ∧ Bes w base g cv L xb (fun _ => False) S wz
def PinJ (w : World) (src dst proto id sport dport ob : Int) (l : List Int) (base g cv : Nat) (L : List PV) (xb i : Nat) (wz : World) : Prop :=
  BkOK l ∧ (∃ E, DgF sport dport (kP src dst proto id) (L.map PV.p) E) ∧ i ≤ L.length ∧ ∃ S, PinS src dst proto id sport dport ob l (L.map PV.p) i S ∧ (i = 1 → S.slots = tblOf [ob]) ∧ Bes w base g cv L xb (fun _ => False) S wz
def PinK (w : World) (src dst proto id sport dport ob : Int) (l : List Int) (base g cv : Nat) (L : List PV) (xb i gb cb : Nat) (wz : World) : Prop :=
  BkOK l ∧ (∃ E, DgF sport dport (kP src dst proto id) (L.map PV.p) E) ∧ i < L.length ∧ ∃ S x, L[i]? = some x ∧ Good S ∧ S.reps = 1 ∧ S.now = 0 ∧ S.slots.length = 31 ∧ (i = 0 → S.slots = tblOf l) ∧ (1 ≤ i → S.slots = tblOf [ob]) ∧ S.next = 2 * i + 1 ∧ S.evs = evP (tofP src dst proto sport dport l) i ++ [⟨2 * i, 0, tofP src dst proto sport dport l⟩] ∧ TI S 0 0 (tofP src dst proto sport dport l) (kP src dst proto id) (L.map PV.p) (comeP (L.map PV.p) (i + 1)) ((L.map PV.p).drop (i + 1)) ∧ Has wz (some ⟨gb, 0, none⟩) x.bytes ∧ x.bytes.length ≤ cb ∧ cb ≤ maxLen ∧ gb < wz.heap.size ∧ Bes w base g cv L xb (fun k => k = gb) S wz
def PinM (w : World) (src dst proto id sport dport ob : Int) (l : List Int) (base g cv : Nat) (L : List PV) (xb gh : Nat) (wz : World) : Prop :=
  BkOK l ∧ (∃ E, DgF sport dport (kP src dst proto id) (L.map PV.p) E) ∧ gh < wz.heap.size ∧ ∃ S, PinS src dst proto id sport dport ob l (L.map PV.p) L.length S ∧ Bes w base g cv L xb (fun k => k = gh) S wz
def PinM2 (w : World) (src dst proto id sport dport ob : Int) (l : List Int) (base g cv : Nat) (L : List PV) (xb gh : Nat) (wz : World) : Prop :=
  gh < wz.heap.size ∧ 2 ≤ L.length ∧ ∃ S, S.evs = evP (tofP src dst proto sport dport l) (L.length - 1) ++ [⟨2 * (L.length - 1), 0, tofP src dst proto sport dport l⟩, ⟨2 * L.length - 1, 0, ob⟩] ∧ Bes w base g cv L xb (fun k => k = gh) S wz

theorem map_get {L : List PV} {i : Nat} {x : PV} (h : L[i]? = some x) : (L.map PV.p)[i]? = some x.p := by rw [List.getElem?_map, h]; rfl

set_option maxHeartbeats 800000 in
theorem pinned_any (src dst id proto sport dport tail backends other : Int) (zs : List Int) (n cap : Nat) (ao : Option Addr) (w : World) (hfl : FlOK src dst id proto sport dport) (hl : zs.length = n) (hz : ∀ z ∈ zs, -9223372036854775808 ≤ z ∧ z ≤ 9223372036854775807) (hd : HasZ w ao zs) (hn : n ≤ 9223372036854775807) (ht : -9223372036854775808 ≤ tail ∧ tail ≤ 9223372036854775807) (hbk : -9223372036854775808 ≤ backends ∧ backends ≤ 9223372036854775807) :
    Calls Try.prog 3 #[.agg #[.int .u16 src, .int .u16 dst, .int .u16 id, .int .u8 proto, .int .u16 sport, .int .u16 dport], .slice ao n cap, .int .i64 tail, .int .i64 backends, .int .i64 other] w fun e w' => e = .returned (.bool true) ∧ Below w.heap.size w w' := by
  obtain ⟨ob, hob, hob2⟩ : ∃ ob : Int, IntKind.u8.wrap other = ob ∧ 0 ≤ ob ∧ ob ≤ 255 := ⟨_, rfl, by rw [IntKind.wrap_u8]; omega⟩
  obtain ⟨f1, f2, f3, f4, f5, f6⟩ := hfl
  refine pinned_core src dst id proto sport dport tail backends other ob zs n cap ao w hl hz hd hn ht hbk hob (tofP src dst proto sport dport) (fun l xb wz => BkOK l ∧ At w (fun _ => False) xb (backM (Cl.new 1 5) (tblOf l)) wz)
    (PinI w src dst proto id sport dport ob) (PinJ w src dst proto id sport dport ob) (PinK w src dst proto id sport dport ob) (PinM w src dst proto id sport dport ob) (PinM2 w src dst proto id sport dport ob)
    (hide ?_) (hide ?_) (hide ?_) (hide ?_) (hide ?_) (hide ?_) (hide ?_) (hide ?_) (hide ?_) (hide ?_) (hide ?_) (hide ?_) (hide ?_) (hide ?_) (hide ?_) (hide ?_)
  · intro l va vc wz hbz hl' hh
    refine (at_begun 1 5 l va l.length vc w wz hbz (by omega) (by omega) (by omega) (by omega) rfl hh hl'.2.2.1 hl'.2.2.2 (by rw [tE_nd l hl'.1 hl'.2.1 hl'.2.2.1 hl'.2.2.2]; decide)).mono ?_
    rintro e w' ⟨xb, rfl, h1, h2⟩
    exact ⟨xb, rfl, ⟨hl', h1.less (fun _ h => h.elim)⟩, h2⟩
  · rintro l xb wz w1 g cv L ⟨hbk', hA⟩ hb hpk hdg
    obtain ⟨E, hF⟩ := dg_facts src dst id proto sport dport 7 (by omega) tail L hdg f1 f2 f4 f3 f5 f6
    have hfull := tbl_full l hbk'
    refine ⟨hbk', ⟨E, hF⟩, Nat.zero_le _, backM (Cl.new 1 5) (tblOf l), ⟨good_back _ _ (good_new 1 5 (by omega) (by omega) (by omega)) (tblOf_len _) (tbl_bd' _), rfl, rfl, hfull.1, ⟨fun _ => rfl, fun h => by omega⟩, ?_, ⟨fun _ => ⟨rfl, rfl⟩, fun h => ?_⟩⟩, fun _ => rfl, Bes.start hA hb hpk⟩
    · exact TI.start _ rfl _ _ _ _ _
    · have := hF.two
      omega
  · rintro l base g cv L xb i wz ⟨_, _, _, S, _, _, hB⟩
    exact hB.pk
  · rintro l base g cv L xb i wz ⟨_, _, _, S, _, _, hB⟩
    exact hB.pk
  · rintro l base g cv L xb i wz ⟨_, _, _, S, _, hB⟩
    exact hB.pk
  · intro L x base wz hdg hx hv
    obtain ⟨E, hF⟩ := dg_facts src dst id proto sport dport 7 (by omega) tail L hdg f1 f2 f4 f3 f5 f6
    exact packed_pv x base wz (hF.good x.p (List.mem_map_of_mem hx)) hv
  · rintro l base g cv L xb x wz hx ⟨h1, ⟨E, hF⟩, h3, S, h4, h5, hB⟩
    obtain ⟨G, hA, hE, hst⟩ := hB.step
    have hx' := map_get hx
    have hg := hF.good x.p (List.mem_of_getElem? hx')
    obtain ⟨q1, q2, q3⟩ := hF.first x.p hx'
    obtain ⟨s1, s2, s3, s4⟩ := hF.dat.same x.p (List.mem_of_getElem? hx')
    refine (at_choose xb S G x.p.src x.p.dst x.p.proto x.p.id x.p.off x.p.more x.p.sport x.p.dport x.ao x.p.dlen x.cap w wz hA h4.full hg.src.1 hg.src.2 hg.dst.1 hg.dst.2 hg.proto.1 hg.proto.2 hg.id.1 hg.id.2 hg.off.1 hg.off.2 hg.sport.1 hg.sport.2 hg.dport.1 hg.dport.2).mono ?_
    rintro e w' ⟨rfl, a1, a2⟩
    refine ⟨?_, h1, ⟨E, hF⟩, h3, S, h4, h5, hst S w' a1 (Kp.below a2)⟩
    rw [q2, q3, ← s1, ← s2, ← s3, h4.slots.1 rfl]
    rfl
  · rintro l base g cv L xb wz w1 gn ⟨h1, ⟨E, hF⟩, h3, S, h4, h5, hB⟩ hb hh
    obtain ⟨G, hA, hE, hst⟩ := (hB.below hb).step
    have hob3 : ∀ z ∈ [ob], 0 ≤ z ∧ z ≤ 255 := fun z hz' => by rw [List.mem_singleton.1 hz']; exact hob2
    have hbo : BkOK [ob] := ⟨by rw [nd, nd]; rfl, by simp, by simp, hob3⟩
    refine (at_back xb S G [ob] (some ⟨gn, 0, none⟩) 1 1 w w1 hA rfl hh (by omega) hob3 (by rw [tE_one ob hob2]; decide)).mono ?_
    rintro e w' ⟨rfl, a1, a2⟩
    have hT1 := (tbl_full [ob] hbo).1
    have hT2 := tblOf_len [ob]
    have hT3 := tbl_bd' [ob]
    refine ⟨rfl, h1, ⟨E, hF⟩, h3, ?_⟩
    obtain ⟨T, hT⟩ : ∃ T, T = tblOf [ob] := ⟨_, rfl⟩
    rw [← hT] at a1 hT1 hT2 hT3 ⊢
    exact ⟨backM S T, ⟨good_back S T h4.good hT2 hT3, h4.reps, h4.now, hT1, ⟨fun h => by omega, fun h => by omega⟩, h4.ti.slots rfl, h4.evs⟩, fun _ => rfl, hst _ w' a1 a2⟩
  · rintro l base g cv L xb i wz hi ⟨h1, h2, h3, S, h4, h5, hB⟩
    exact ⟨h1, h2, h3, S, h4, fun h => absurd h hi, hB⟩
  · rintro l base g cv L xb i x gb ln cb wz w1 hx ⟨h1, ⟨E, hF⟩, h3, S, h4, h5, hB⟩ hb hrow
    have hx' := map_get hx
    have hil := (List.getElem?_eq_some_iff.1 hx).1
    have hml : (L.map PV.p).length = L.length := List.length_map _
    have h2 := hF.two
    have hg := hF.good x.p (List.mem_of_getElem? hx')
    have hnx := (h4.evs.1 (by omega)).2
    obtain ⟨o1, o2, o3, o4⟩ := owns_has hrow
    have hlt := hrow.lt gb rfl
    have hB2 := hB.plus hb gb hlt.1 hlt.2
    obtain ⟨S', hS', p1, p2, p3, p4, p5, p6⟩ := pin_one src dst proto id sport dport ob l (L.map PV.p) E i S x.p hF h4 hx' (by omega)
    refine (bes_arrive w w1 base g cv L xb _ S hB2 h4.good 0 x hg gb ln cb (by omega) (by omega) (by rw [h4.reps]; omega) o2 o3 o4 o1 (.inr rfl)).mono ?_
    rintro e w' ⟨rfl, a1, a2, a3⟩
    rw [← hS'] at a1 a3
    refine ⟨S.next, rfl, h1, ⟨E, hF⟩, hil, S', x, hx, a3, p1, p2, by rw [p3]; exact h4.full, fun h0 => by rw [p3]; exact h4.slots.1 h0, fun h0 => ?_, p4, p5, p6, ?_, by omega, o4, Nat.lt_of_lt_of_le hlt.2 a2.size, a1.less (fun k hk => .inr hk)⟩
    · rw [p3]
      by_cases hi1 : i = 1
      · exact h5 hi1
      · exact h4.slots.2 (by omega)
    · exact has_keep o1 a2 (fun a ha hh => hh (by
        simp only [Option.some.injEq] at ha
        rw [← ha]
        exact .inr rfl))
  · rintro l base g cv L xb i x gb cb wz hx hil ⟨h1, ⟨E, hF⟩, h3, S, x', hx2, h4, h5, h6, h7, h8, h9, h10, h11, h12, h13, h14, h15, h16, hB⟩
    obtain rfl : x = x' := by rw [hx] at hx2; exact Option.some.inj hx2
    have hx' := map_get hx
    have hml : (L.map PV.p).length = L.length := List.length_map _
    have h2 := hF.two
    have hg := hF.good x.p (List.mem_of_getElem? hx')
    refine (bes_arrive w wz base g cv L xb _ S hB h4 0 x hg gb x.bytes.length cb (by omega) (by omega) (by rw [h5]; omega) rfl h14 h15 h13 rfl).mono ?_
    rintro e w' ⟨rfl, a1, a2, a3⟩
    have hsl : S.slots ≠ [] := fun hh => by rw [hh] at h7; cases h7
    have har := arrive_come S 0 x.p (hF.piece x.p (List.mem_of_getElem? hx')) (owner_zero S h5 x.p)
    have hag := ti_again { S with next := S.next + 1 } 0 0 (tofP src dst proto sport dport l) (kP src dst proto id) (L.map PV.p) E (comeP (L.map PV.p) (i + 1)) ((L.map PV.p).drop (i + 1)) S.next x.p hF.dat (h12.next _) (fun hh => by
      have := congrArg List.length hh
      simp at this
      omega) (by
      rw [comeP_map]
      refine List.mem_of_getElem? (i := i) ?_
      rw [List.getElem?_take_of_lt (by omega)]
      exact hx') hsl
    rw [hag] at har
    rw [har] at a1 a3
    refine ⟨S.next, rfl, h1, ⟨E, hF⟩, by omega, toldM { S with next := S.next + 1 } S.next 3 0, ⟨a3, h5, h6, h7, ⟨fun h => by omega, fun h => h9 (by omega)⟩, h12.slots rfl, ⟨fun _ => ?_, fun h => by omega⟩⟩, ?_, a1.less (fun k hk => hk.elim)⟩
    · refine ⟨?_, ?_⟩
      · show S.evs ++ [⟨S.next, 3, 0⟩] = _
        rw [h11, h10, evP, List.append_assoc]
        rfl
      · show S.next + 1 = _
        omega
    · intro hi0
      exact h8 (by omega)
  · rintro l base g cv L xb i gb cb wz hil ⟨h1, ⟨E, hF⟩, h3, S, x', hx2, h4, h5, h6, h7, h8, h9, h10, h11, h12, h13, h14, h15, h16, hB⟩
    have hml : (L.map PV.p).length = L.length := List.length_map _
    have h2 := hF.two
    refine ⟨h1, ⟨E, hF⟩, by omega, S, ⟨h4, h5, h6, h7, ⟨fun h => by omega, fun h => h9 (by omega)⟩, h12, ⟨fun h => by omega, fun _ => ?_⟩⟩, fun h => by omega, hB.less (fun k hk => hk.elim)⟩
    rw [hml, ← hil]
    exact ⟨h11, by omega⟩
  · rintro l base g cv L xb wz ⟨h1, ⟨E, hF⟩, h3, S, h4, h5, hB⟩
    have hml : (L.map PV.p).length = L.length := List.length_map _
    obtain ⟨G, hA, hE, hst⟩ := hB.step
    have hen : S.ents = [] := by
      rw [h4.ti.ents]
      refine if_pos (.inr ?_)
      rw [← hml]
      exact List.drop_length
    obtain ⟨e1, e2, e3⟩ := held_nil S hen ((0 : Nat) : Int)
    refine (at_held xb 0 S G w wz hA h4.good.sml (by rw [h4.reps]; decide)).mono ?_
    rintro e w' ⟨rfl, a1, a2⟩
    exact ⟨by rw [e1, e2, e3]; rfl, h1, ⟨E, hF⟩, h3, S, h4, h5, hst S w' a1 (Kp.below a2)⟩
  · rintro l base g cv L xb wz w1 gb ⟨h1, h2, h3, S, h4, h5, hB⟩ hb hg1 hg2
    exact ⟨h1, h2, hg2, S, h4, (hB.plus hb gb hg1 hg2).less (fun k hk => .inr hk)⟩
  · rintro l base g cv L xb gh x gb ln cb wz w1 hx ⟨h1, ⟨E, hF⟩, hgh, S, h4, hB⟩ hb hrow
    have hx' := map_get hx
    have hml : (L.map PV.p).length = L.length := List.length_map _
    have h2 := hF.two
    have hg := hF.good x.p (List.mem_of_getElem? hx')
    have hev := h4.evs.2 hml.symm
    obtain ⟨o1, o2, o3, o4⟩ := owns_has hrow
    have hlt := hrow.lt gb rfl
    have hB2 := hB.plus hb gb hlt.1 hlt.2
    refine (bes_arrive w w1 base g cv L xb _ S hB2 h4.good 0 x hg gb ln cb (by omega) (by omega) (by rw [h4.reps]; omega) o2 o3 o4 o1 (.inr rfl)).mono ?_
    rintro e w' ⟨rfl, a1, a2, a3⟩
    have har := arrive_come S 0 x.p (hF.piece x.p (List.mem_of_getElem? hx')) (owner_zero S h4.reps x.p)
    obtain ⟨q1, q2, q3⟩ := hF.first x.p hx'
    have hslo : S.slots = tblOf [ob] := h4.slots.2 (by omega)
    have hti0 := h4.ti
    rw [show (L.map PV.p).drop L.length = [] from by rw [← hml]; exact List.drop_length] at hti0
    have hti := (hti0.anew 0 ob).next (S.next + 1)
    obtain ⟨ps', hps⟩ : ∃ ps', L.map PV.p = x.p :: ps' := by
      have := drop_at (L.map PV.p) 0 x.p hx'
      rw [List.drop_zero] at this
      exact ⟨_, this⟩
    have hti2 : TI { S with next := S.next + 1 } 0 0 ob (kP src dst proto id) (L.map PV.p) [] (x.p :: ps') := ⟨by rw [← hps]; exact hti.perm, by rw [← hps]; exact hti.ents⟩
    obtain ⟨t1, t2, t3⟩ := ti_next { S with next := S.next + 1 } 0 0 ob (kP src dst proto id) (L.map PV.p) E [] ps' S.next x.p hF.dat hti2 (owner_zero _ h4.reps x.p) (.inr ⟨rfl, q1, h4.now.symm, by
      unfold chosenM
      show S.slots.getD _ 0 = ob
      rw [hslo]
      exact tbl_one ob hob2 _ (Nat.mod_lt _ (by decide)), fun hh => by
      have hf := h4.full
      rw [show S.slots = [] from hh] at hf
      cases hf⟩) (fun _ => rfl)
    have hsz1 : gh < w1.heap.size := Nat.lt_of_lt_of_le hgh hb.size
    refine ⟨S.next, rfl, ⟨Nat.lt_of_lt_of_le hsz1 a2.size, by omega, _, ?_, a1.less (fun k hk => .inl hk)⟩, fun j => ?_⟩
    · rw [har, t2]
      show S.evs ++ _ = _
      rw [hev.1, hml, hev.2, hml, List.append_assoc]
      rfl
    · exact (a2.cell (p := ⟨gh, j, none⟩) hsz1 (.inl rfl)).trans (hb.cell (p := ⟨gh, j, none⟩) hgh)
  · rintro l base g cv L xb gh wz ⟨hgh, hL2, S, hev, hB⟩
    obtain ⟨G, hA, hE, hst⟩ := hB.step
    refine (at_take xb S G w wz hA).mono ?_
    rintro e w' ⟨v, rfl, a1, a2, a3, a4⟩
    have hlen : S.evs.length = 2 * L.length := by
      rw [hev, List.length_append, evP_len]
      simp
      omega
    rw [hlen] at a3
    rcases own_shaped a3 with ⟨_, hx⟩ | ⟨ge, ce, rfl⟩
    · omega
    have hget : ∀ q v, S.evs[q]? = some v → w'.cell? ⟨ge, q * 3, none⟩ = some (.int .i64 v.seq) ∧ w'.cell? ⟨ge, q * 3 + 1, none⟩ = some (.int .u8 v.fate) ∧ w'.cell? ⟨ge, q * 3 + 2, none⟩ = some (.int .u8 v.whr) := fun q v hq =>
      ⟨row_get Ev.cells Ev.len a3 q v hq 0 _ rfl, row_get Ev.cells Ev.len a3 q v hq 1 _ rfl, row_get Ev.cells Ev.len a3 q v hq 2 _ rfl⟩
    refine ⟨ge, ce, rfl, (a3.lt ge rfl).2, fun q hq => ?_, ?_, a1.bel, fun j => a2.cell (p := ⟨gh, j, none⟩) hgh (hE gh rfl)⟩
    · have hq' : S.evs[q]? = some ⟨q, if q % 2 = 1 then 3 else 0, if q % 2 = 1 then 0 else tofP src dst proto sport dport l⟩ := by
        rw [hev]
        by_cases hq2 : q < 2 * (L.length - 1)
        · rw [List.getElem?_append_left (by rw [evP_len]; exact hq2)]
          exact evP_get _ _ _ hq2
        · obtain rfl : q = 2 * (L.length - 1) := by omega
          rw [List.getElem?_append_right (by rw [evP_len]; exact Nat.le_refl _), evP_len, Nat.sub_self, if_neg (by omega), if_neg (by omega)]
          rfl
      exact hget q _ hq'
    · have hq' : S.evs[2 * L.length - 1]? = some ⟨2 * L.length - 1, 0, ob⟩ := by
        rw [hev, List.getElem?_append_right (by rw [evP_len]; omega), evP_len, show 2 * L.length - 1 - 2 * (L.length - 1) = 1 by omega]
        rfl
      exact hget _ _ hq'

end Go.Proofs.Ytajphdppmdoalab

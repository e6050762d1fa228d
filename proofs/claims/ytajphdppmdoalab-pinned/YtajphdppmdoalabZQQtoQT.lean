import Derived.Test.YtajphdppmdoalabZQMtoQP
import Derived.Test.YtajphdppmdoalabRows
import Derived.Test.YtajphdppmdoalabZQAtoQI
import Derived.WalkKit
import Derived.ProofKit
import Derived.OpenShut
import Derived.ShutString
import Derived.ChangeOld
import Derived.Below
import Derived.SizedLaws
import Derived.Deep.Slices
namespace Go.Proofs.Ytajphdppmdoalab
open Go.RowKit
set_option linter.unusedVariables false

/-- The flow's numbers are in their bounds. -/
def FlOK (src dst id proto sport dport : Int) : Prop := (0 ≤ src ∧ src ≤ 65535) ∧ (0 ≤ dst ∧ dst ≤ 65535) ∧ (0 ≤ id ∧ id ≤ 65535) ∧ (0 ≤ proto ∧ proto ≤ 255) ∧ (0 ≤ sport ∧ sport ≤ 65535) ∧ (0 ≤ dport ∧ dport ≤ 65535)
def PinI (w : World) (src dst proto id sport dport ob : Int) (l : List Int) (base g cv : Nat) (L : List PV) (xb i : Nat) (wz : World) : Prop :=
  BkOK l ∧ (∃ E, DgF sport dport (kP src dst proto id) (L.map PV.p) E) ∧ i ≤ L.length ∧ ∃ S, PinS src dst proto id sport dport ob l (L.map PV.p) i S ∧ (i = 1 → S.slots = tblOf l) ∧ Bes w base g cv L xb (fun _ => False) S wz
def PinJ (w : World) (src dst proto id sport dport ob : Int) (l : List Int) (base g cv : Nat) (L : List PV) (xb i : Nat) (wz : World) : Prop :=
  BkOK l ∧ (∃ E, DgF sport dport (kP src dst proto id) (L.map PV.p) E) ∧ i ≤ L.length ∧ ∃ S, PinS src dst proto id sport dport ob l (L.map PV.p) i S ∧ (i = 1 → S.slots = tblOf [ob]) ∧ Bes w base g cv L xb (fun _ => False) S wz
def PinK (w : World) (src dst proto id sport dport ob : Int) (l : List Int) (base g cv : Nat) (L : List PV) (xb i gb cb : Nat) (wz : World) : Prop :=
  BkOK l ∧ (∃ E, DgF sport dport (kP src dst proto id) (L.map PV.p) E) ∧ i < L.length ∧ ∃ S x, L[i]? = some x ∧ Good S ∧ S.reps = 1 ∧ S.now = 0 ∧ S.slots.length = 31 ∧ (i = 0 → S.slots = tblOf l) ∧ (1 ≤ i → S.slots = tblOf [ob]) ∧ S.next = 2 * i + 1 ∧ S.evs = evP (tofP src dst proto sport dport l) i ++ [⟨2 * i, 0, tofP src dst proto sport dport l⟩] ∧ TI S 0 0 (tofP src dst proto sport dport l) (kP src dst proto id) (L.map PV.p) (comeP (L.map PV.p) (i + 1)) ((L.map PV.p).drop (i + 1)) ∧ Has wz (some ⟨gb, 0, none⟩) x.bytes ∧ x.bytes.length ≤ cb ∧ cb ≤ maxLen ∧ gb < wz.heap.size ∧ Bes w base g cv L xb (fun k => k = gb) S wz
def PinM (w : World) (src dst proto id sport dport ob : Int) (l : List Int) (base g cv : Nat) (L : List PV) (xb gh : Nat) (wz : World) : Prop :=
  BkOK l ∧ (∃ E, DgF sport dport (kP src dst proto id) (L.map PV.p) E) ∧ gh < wz.heap.size ∧ ∃ S, PinS src dst proto id sport dport ob l (L.map PV.p) L.length S ∧ Bes w base g cv L xb (fun k => k = gh) S wz
def PinM2 (w : World) (src dst proto id sport dport ob : Int) (l : List Int) (base g cv : Nat) (L : List PV) (xb gh : Nat) (wz : World) : Prop :=
  gh < wz.heap.size ∧ 2 ≤ L.length ∧ ∃ S, S.evs = evP (tofP src dst proto sport dport l) (L.length - 1) ++ [⟨2 * (L.length - 1), 0, tofP src dst proto sport dport l⟩, ⟨2 * L.length - 1, 0, ob⟩] ∧ Bes w base g cv L xb (fun k => k = gh) S wz

theorem map_get {L : List PV} {i : Nat} {x : PV} (h : L[i]? = some x) : (L.map PV.p)[i]? = some x.p := by rw [List.getElem?_map, h]; rfl

set_option maxHeartbeats 800000 in
theorem pinned_any (src dst id proto sport dport tail backends other : Int) (zs : List Int) (n cap : Nat) (ao : Option Addr) (w : World) (hfl : FlOK src dst id proto sport dport) (hl : zs.length = n) (hz : ∀ z ∈ zs, -9223372036854775808 ≤ z ∧ z ≤ 9223372036854775807) (hd : HasZ w ao zs) (hn : n ≤ 9223372036854775807) (ht : -9223372036854775808 ≤ tail ∧ tail ≤ 9223372036854775807) (hbk : -9223372036854775808 ≤ backends ∧ backends ≤ 9223372036854775807) :
    Calls Try.prog 3 #[.agg #[.int .u16 src, .int .u16 dst, .int .u16 id, .int .u8 proto, .int .u16 sport, .int .u16 dport], .slice ao n cap, .int .i64 tail, .int .i64 backends, .int .i64 other] w fun e w' => e = .returned (.bool true) ∧ Below w.heap.size w w' := by
  obtain ⟨ob, hob, hob2⟩ : ∃ ob : Int, IntKind.u8.wrap other = ob ∧ 0 ≤ ob ∧ ob ≤ 255 := ⟨_, rfl, by rw [IntKind.wrap_u8]; omega⟩
  obtain ⟨f1, f2, f3, f4, f5, f6⟩ := hfl
  refine pinned_core src dst id proto sport dport tail backends other ob zs n cap ao w hl hz hd hn ht hbk hob (tofP src dst proto sport dport) (fun l xb wz => BkOK l ∧ At w (fun _ => False) xb (backM (Cl.new 1 5) (tblOf l)) wz)
    (PinI w src dst proto id sport dport ob) (PinJ w src dst proto id sport dport ob) (PinK w src dst proto id sport dport ob) (PinM w src dst proto id sport dport ob) (PinM2 w src dst proto id sport dport ob)
    (hide ?_) (hide ?_) (hide ?_) (hide ?_) (hide ?_) (hide ?_) (hide ?_) (hide ?_) (hide ?_) (hide ?_) (hide ?_) (hide ?_) (hide ?_) (hide ?_) (hide ?_) (hide ?_)
  · intro l va vc wz hbz hl' hh
    refine (at_begun 1 5 l va l.length vc w wz hbz (by omega) (by omega) (by omega) (by omega) rfl hh hl'.2.2.1 hl'.2.2.2 (by rw [tE_nd l hl'.1 hl'.2.1 hl'.2.2.1 hl'.2.2.2]; decide)).mono ?_
    rintro e w' ⟨xb, rfl, h1, h2⟩
    exact ⟨xb, rfl, ⟨hl', h1.less (fun _ h => h.elim)⟩, h2⟩
  · rintro l xb wz w1 g cv L ⟨hbk', hA⟩ hb hpk hdg
    obtain ⟨E, hF⟩ := dg_facts src dst id proto sport dport 7 (by omega) tail L hdg f1 f2 f4 f3 f5 f6
    have hfull := tbl_full l hbk'
    refine ⟨hbk', ⟨E, hF⟩, Nat.zero_le _, backM (Cl.new 1 5) (tblOf l), ⟨good_back _ _ (good_new 1 5 (by omega) (by omega) (by omega)) (tblOf_len _) (tbl_bd' _), rfl, rfl, hfull.1, ⟨fun _ => rfl, fun h => by omega⟩, ?_, ⟨fun _ => ⟨rfl, rfl⟩, fun h => ?_⟩⟩, fun _ => rfl, Bes.start hA hb hpk⟩
    · exact TI.start _ rfl _ _ _ _ _
    · have := hF.two
      omega
  · rintro l base g cv L xb i wz ⟨_, _, _, S, _, _, hB⟩
    exact hB.pk
  · rintro l base g cv L xb i wz ⟨_, _, _, S, _, _, hB⟩
    exact hB.pk
  · rintro l base g cv L xb i wz ⟨_, _, _, S, _, hB⟩
    exact hB.pk
  · intro L x base wz hdg hx hv
    obtain ⟨E, hF⟩ := dg_facts src dst id proto sport dport 7 (by omega) tail L hdg f1 f2 f4 f3 f5 f6
    exact packed_pv x base wz (hF.good x.p (List.mem_map_of_mem hx)) hv
  · rintro l base g cv L xb x wz hx ⟨h1, ⟨E, hF⟩, h3, S, h4, h5, hB⟩
    obtain ⟨G, hA, hE, hst⟩ := hB.step
    have hx' := map_get hx
    have hg := hF.good x.p (List.mem_of_getElem? hx')
    obtain ⟨q1, q2, q3⟩ := hF.first x.p hx'
    obtain ⟨s1, s2, s3, s4⟩ := hF.dat.same x.p (List.mem_of_getElem? hx')
    refine (at_choose xb S G x.p.src x.p.dst x.p.proto x.p.id x.p.off x.p.more x.p.sport x.p.dport x.ao x.p.dlen x.cap w wz hA h4.full hg.src.1 hg.src.2 hg.dst.1 hg.dst.2 hg.proto.1 hg.proto.2 hg.id.1 hg.id.2 hg.off.1 hg.off.2 hg.sport.1 hg.sport.2 hg.dport.1 hg.dport.2).mono ?_
    rintro e w' ⟨rfl, a1, a2⟩
    refine ⟨?_, h1, ⟨E, hF⟩, h3, S, h4, h5, hst S w' a1 (Kp.below a2)⟩
    rw [q2, q3, ← s1, ← s2, ← s3, h4.slots.1 rfl]
    rfl
  · rintro l base g cv L xb wz w1 gn ⟨h1, ⟨E, hF⟩, h3, S, h4, h5, hB⟩ hb hh
    obtain ⟨G, hA, hE, hst⟩ := (hB.below hb).step
    have hob3 : ∀ z ∈ [ob], 0 ≤ z ∧ z ≤ 255 := fun z hz' => by rw [List.mem_singleton.1 hz']; exact hob2
    have hbo : BkOK [ob] := ⟨by rw [nd, nd]; rfl, by simp, by simp, hob3⟩
    refine (at_back xb S G [ob] (some ⟨gn, 0, none⟩) 1 1 w w1 hA rfl hh (by omega) hob3 (by rw [tE_one ob hob2]; decide)).mono ?_
    rintro e w' ⟨rfl, a1, a2⟩
    have hT1 := (tbl_full [ob] hbo).1
    have hT2 := tblOf_len [ob]
    have hT3 := tbl_bd' [ob]
    refine ⟨rfl, h1, ⟨E, hF⟩, h3, ?_⟩
    obtain ⟨T, hT⟩ : ∃ T, T = tblOf [ob] := ⟨_, rfl⟩
    rw [← hT] at a1 hT1 hT2 hT3 ⊢
    exact ⟨backM S T, ⟨good_back S T h4.good hT2 hT3, h4.reps, h4.now, hT1, ⟨fun h => by omega, fun h => by omega⟩, h4.ti.slots rfl, h4.evs⟩, fun _ => rfl, hst _ w' a1 a2⟩
  · rintro l base g cv L xb i wz hi ⟨h1, h2, h3, S, h4, h5, hB⟩
    exact ⟨h1, h2, h3, S, h4, fun h => absurd h hi, hB⟩
  · rintro l base g cv L xb i x gb ln cb wz w1 hx ⟨h1, ⟨E, hF⟩, h3, S, h4, h5, hB⟩ hb hrow
    have hx' := map_get hx
    have hil := (List.getElem?_eq_some_iff.1 hx).1
    have hml : (L.map PV.p).length = L.length := List.length_map _
    have h2 := hF.two
    have hg := hF.good x.p (List.mem_of_getElem? hx')
    have hnx := (h4.evs.1 (by omega)).2
    obtain ⟨o1, o2, o3, o4⟩ := owns_has hrow
    have hlt := hrow.lt gb rfl
    have hB2 := hB.plus hb gb hlt.1 hlt.2
    obtain ⟨S', hS', p1, p2, p3, p4, p5, p6⟩ := pin_one src dst proto id sport dport ob l (L.map PV.p) E i S x.p hF h4 hx' (by omega)
    refine (bes_arrive w w1 base g cv L xb _ S hB2 h4.good 0 x hg gb ln cb (by omega) (by omega) (by rw [h4.reps]; omega) o2 o3 o4 o1 (.inr rfl)).mono ?_
    rintro e w' ⟨rfl, a1, a2, a3⟩
    rw [← hS'] at a1 a3
    refine ⟨S.next, rfl, h1, ⟨E, hF⟩, hil, S', x, hx, a3, p1, p2, by rw [p3]; exact h4.full, fun h0 => by rw [p3]; exact h4.slots.1 h0, fun h0 => ?_, p4, p5, p6, ?_, by omega, o4, Nat.lt_of_lt_of_le hlt.2 a2.size, a1.less (fun k hk => .inr hk)⟩
    · rw [p3]
      by_cases hi1 : i = 1
      · exact h5 hi1
      · exact h4.slots.2 (by omega)
    · exact has_keep o1 a2 (fun a ha hh => hh (by
        simp only [Option.some.injEq] at ha
        rw [← ha]
        exact .inr rfl))
  · rintro l base g cv L xb i x gb cb wz hx hil ⟨h1, ⟨E, hF⟩, h3, S, x', hx2, h4, h5, h6, h7, h8, h9, h10, h11, h12, h13, h14, h15, h16, hB⟩
    obtain rfl : x = x' := by rw [hx] at hx2; exact Option.some.inj hx2
    have hx' := map_get hx
    have hml : (L.map PV.p).length = L.length := List.length_map _
    have h2 := hF.two
    have hg := hF.good x.p (List.mem_of_getElem? hx')
    refine (bes_arrive w wz base g cv L xb _ S hB h4 0 x hg gb x.bytes.length cb (by omega) (by omega) (by rw [h5]; omega) rfl h14 h15 h13 rfl).mono ?_
    rintro e w' ⟨rfl, a1, a2, a3⟩
    have hsl : S.slots ≠ [] := fun hh => by rw [hh] at h7; cases h7
    have har := arrive_come S 0 x.p (hF.piece x.p (List.mem_of_getElem? hx')) (owner_zero S h5 x.p)
    have hag := ti_again { S with next := S.next + 1 } 0 0 (tofP src dst proto sport dport l) (kP src dst proto id) (L.map PV.p) E (comeP (L.map PV.p) (i + 1)) ((L.map PV.p).drop (i + 1)) S.next x.p hF.dat (h12.next _) (fun hh => by
      have := congrArg List.length hh
      simp at this
      omega) (by
      rw [comeP_map]
      refine List.mem_of_getElem? (i := i) ?_
      rw [List.getElem?_take_of_lt (by omega)]
      exact hx') hsl
    rw [hag] at har
    rw [har] at a1 a3
    refine ⟨S.next, rfl, h1, ⟨E, hF⟩, by omega, toldM { S with next := S.next + 1 } S.next 3 0, ⟨a3, h5, h6, h7, ⟨fun h => by omega, fun h => h9 (by omega)⟩, h12.slots rfl, ⟨fun _ => ?_, fun h => by omega⟩⟩, ?_, a1.less (fun k hk => hk.elim)⟩
    · refine ⟨?_, ?_⟩
      · show S.evs ++ [⟨S.next, 3, 0⟩] = _
        rw [h11, h10, evP, List.append_assoc]
        rfl
      · show S.next + 1 = _
        omega
    · intro hi0
      exact h8 (by omega)
  · rintro l base g cv L xb i gb cb wz hil ⟨h1, ⟨E, hF⟩, h3, S, x', hx2, h4, h5, h6, h7, h8, h9, h10, h11, h12, h13, h14, h15, h16, hB⟩
    have hml : (L.map PV.p).length = L.length := List.length_map _
    have h2 := hF.two
    refine ⟨h1, ⟨E, hF⟩, by omega, S, ⟨h4, h5, h6, h7, ⟨fun h => by omega, fun h => h9 (by omega)⟩, h12, ⟨fun h => by omega, fun _ => ?_⟩⟩, fun h => by omega, hB.less (fun k hk => hk.elim)⟩
    rw [hml, ← hil]
    exact ⟨h11, by omega⟩
  · rintro l base g cv L xb wz ⟨h1, ⟨E, hF⟩, h3, S, h4, h5, hB⟩
    have hml : (L.map PV.p).length = L.length := List.length_map _
    obtain ⟨G, hA, hE, hst⟩ := hB.step
    have hen : S.ents = [] := by
      rw [h4.ti.ents]
      refine if_pos (.inr ?_)
      rw [← hml]
      exact List.drop_length
    obtain ⟨e1, e2, e3⟩ := held_nil S hen ((0 : Nat) : Int)
    refine (at_held xb 0 S G w wz hA h4.good.sml (by rw [h4.reps]; decide)).mono ?_
    rintro e w' ⟨rfl, a1, a2⟩
    exact ⟨by rw [e1, e2, e3]; rfl, h1, ⟨E, hF⟩, h3, S, h4, h5, hst S w' a1 (Kp.below a2)⟩
  · rintro l base g cv L xb wz w1 gb ⟨h1, h2, h3, S, h4, h5, hB⟩ hb hg1 hg2
    exact ⟨h1, h2, hg2, S, h4, (hB.plus hb gb hg1 hg2).less (fun k hk => .inr hk)⟩
  · rintro l base g cv L xb gh x gb ln cb wz w1 hx ⟨h1, ⟨E, hF⟩, hgh, S, h4, hB⟩ hb hrow
    have hx' := map_get hx
    have hml : (L.map PV.p).length = L.length := List.length_map _
    have h2 := hF.two
    have hg := hF.good x.p (List.mem_of_getElem? hx')
    have hev := h4.evs.2 hml.symm
    obtain ⟨o1, o2, o3, o4⟩ := owns_has hrow
    have hlt := hrow.lt gb rfl
    have hB2 := hB.plus hb gb hlt.1 hlt.2
    refine (bes_arrive w w1 base g cv L xb _ S hB2 h4.good 0 x hg gb ln cb (by omega) (by omega) (by rw [h4.reps]; omega) o2 o3 o4 o1 (.inr rfl)).mono ?_
    rintro e w' ⟨rfl, a1, a2, a3⟩
    have har := arrive_come S 0 x.p (hF.piece x.p (List.mem_of_getElem? hx')) (owner_zero S h4.reps x.p)
    obtain ⟨q1, q2, q3⟩ := hF.first x.p hx'
    have hslo : S.slots = tblOf [ob] := h4.slots.2 (by omega)
    have hti0 := h4.ti
    rw [show (L.map PV.p).drop L.length = [] from by rw [← hml]; exact List.drop_length] at hti0
    have hti := (hti0.anew 0 ob).next (S.next + 1)
    obtain ⟨ps', hps⟩ : ∃ ps', L.map PV.p = x.p :: ps' := by
      have := drop_at (L.map PV.p) 0 x.p hx'
      rw [List.drop_zero] at this
      exact ⟨_, this⟩
    have hti2 : TI { S with next := S.next + 1 } 0 0 ob (kP src dst proto id) (L.map PV.p) [] (x.p :: ps') := ⟨by rw [← hps]; exact hti.perm, by rw [← hps]; exact hti.ents⟩
    obtain ⟨t1, t2, t3⟩ := ti_next { S with next := S.next + 1 } 0 0 ob (kP src dst proto id) (L.map PV.p) E [] ps' S.next x.p hF.dat hti2 (owner_zero _ h4.reps x.p) (.inr ⟨rfl, q1, h4.now.symm, by
      unfold chosenM
      show S.slots.getD _ 0 = ob
      rw [hslo]
      exact tbl_one ob hob2 _ (Nat.mod_lt _ (by decide)), fun hh => by
      have hf := h4.full
      rw [show S.slots = [] from hh] at hf
      cases hf⟩) (fun _ => rfl)
    have hsz1 : gh < w1.heap.size := Nat.lt_of_lt_of_le hgh hb.size
    refine ⟨S.next, rfl, ⟨Nat.lt_of_lt_of_le hsz1 a2.size, by omega, _, ?_, a1.less (fun k hk => .inl hk)⟩, fun j => ?_⟩
    · rw [har, t2]
      show S.evs ++ _ = _
      rw [hev.1, hml, hev.2, hml, List.append_assoc]
      rfl
    · exact (a2.cell (p := ⟨gh, j, none⟩) hsz1 (.inl rfl)).trans (hb.cell (p := ⟨gh, j, none⟩) hgh)
  · rintro l base g cv L xb gh wz ⟨hgh, hL2, S, hev, hB⟩
    obtain ⟨G, hA, hE, hst⟩ := hB.step
    refine (at_take xb S G w wz hA).mono ?_
    rintro e w' ⟨v, rfl, a1, a2, a3, a4⟩
    have hlen : S.evs.length = 2 * L.length := by
      rw [hev, List.length_append, evP_len]
      simp
      omega
    rw [hlen] at a3
    rcases own_shaped a3 with ⟨_, hx⟩ | ⟨ge, ce, rfl⟩
    · omega
    have hget : ∀ q v, S.evs[q]? = some v → w'.cell? ⟨ge, q * 3, none⟩ = some (.int .i64 v.seq) ∧ w'.cell? ⟨ge, q * 3 + 1, none⟩ = some (.int .u8 v.fate) ∧ w'.cell? ⟨ge, q * 3 + 2, none⟩ = some (.int .u8 v.whr) := fun q v hq =>
      ⟨row_get Ev.cells Ev.len a3 q v hq 0 _ rfl, row_get Ev.cells Ev.len a3 q v hq 1 _ rfl, row_get Ev.cells Ev.len a3 q v hq 2 _ rfl⟩
    refine ⟨ge, ce, rfl, (a3.lt ge rfl).2, fun q hq => ?_, ?_, a1.bel, fun j => a2.cell (p := ⟨gh, j, none⟩) hgh (hE gh rfl)⟩
    · have hq' : S.evs[q]? = some ⟨q, if q % 2 = 1 then 3 else 0, if q % 2 = 1 then 0 else tofP src dst proto sport dport l⟩ := by
        rw [hev]
        by_cases hq2 : q < 2 * (L.length - 1)
        · rw [List.getElem?_append_left (by rw [evP_len]; exact hq2)]
          exact evP_get _ _ _ hq2
        · obtain rfl : q = 2 * (L.length - 1) := by omega
          rw [List.getElem?_append_right (by rw [evP_len]; exact Nat.le_refl _), evP_len, Nat.sub_self, if_neg (by omega), if_neg (by omega)]
          rfl
      exact hget q _ hq'
    · have hq' : S.evs[2 * L.length - 1]? = some ⟨2 * L.length - 1, 0, ob⟩ := by
        rw [hev, List.getElem?_append_right (by rw [evP_len]; omega), evP_len, show 2 * L.length - 1 - 2 * (L.length - 1) = 1 by omega]
        rfl
      exact hget _ _ hq'

end Go.Proofs.Ytajphdppmdoalab

namespace Go.Proofs.Ytajphdppmdoalab
open Go.ChangeShapes Go.WideShapes Go.ChangeAt Go.RowKit Go.Deep
set_option linter.unusedVariables false

theorem own3 : ownKnob Try.prog.godebug = none := by kernel_rfl
theorem laidOut3 : laidOutB Try.prog = true := by kernel_rfl
theorem cellsInt : Try.prog.cellsOf 3 = 1 := by kernel_rfl
theorem cellsFlow3 : Try.prog.cellsOf 24 = 6 := by kernel_rfl
theorem array6' {α : Type} {cs : Array α} (h : cs.size = 6) : ∃ c0 c1 c2 c3 c4 c5, cs = #[c0, c1, c2, c3, c4, c5] := by
  obtain ⟨l⟩ := cs
  match l, h with
  | [c0, c1, c2, c3, c4, c5], _ => exact ⟨c0, c1, c2, c3, c4, c5, rfl⟩

set_option maxRecDepth 100000 in
/-- A flow that came in. -/
theorem open_flow3 {H : Type} {enc : TypeId × Value → H} {w : World} {base b0 : Nat} {spare : Nat → Bool} {held : Bool} {r : Reach} {v : Value} {d : DataW H} {p : List MemPlace}
    (hv : Value.okWide Try.prog w r b0 24 v) (h : DataW.Trod enc Try.prog w base spare held 24 v d p) :
    ∃ src dst id proto sport dport : Int, v = .agg #[.int .u16 src, .int .u16 dst, .int .u16 id, .int .u8 proto, .int .u16 sport, .int .u16 dport] ∧ (Lit.int .u16 src).wf = true ∧ (Lit.int .u16 dst).wf = true ∧ (Lit.int .u16 id).wf = true ∧ (Lit.int .u8 proto).wf = true ∧ (Lit.int .u16 sport).wf = true ∧ (Lit.int .u16 dport).wf = true := by
  obtain ⟨cs, rfl, hsz⟩ := okWide_struct Try.underlying24 hv
  obtain ⟨c0, c1, c2, c3, c4, c5, rfl⟩ := array6' (hsz.trans cellsFlow3)
  obtain ⟨fuel, hf⟩ := h
  obtain ⟨xs, n, _, hx, hl, hlen, hg⟩ := DataW.trod_struct Try.underlying24 hf
  match xs, hlen with
  | [y0, y1, y2, y3, y4, y5], _ =>
    have g0 : DataW.trod enc Try.prog w base spare held n 22 [c0] = some y0 := hg 0 _ rfl
    have g1 : DataW.trod enc Try.prog w base spare held n 22 [c1] = some y1 := hg 1 _ rfl
    have g2 : DataW.trod enc Try.prog w base spare held n 22 [c2] = some y2 := hg 2 _ rfl
    have g3 : DataW.trod enc Try.prog w base spare held n 5 [c3] = some y3 := hg 3 _ rfl
    have g4 : DataW.trod enc Try.prog w base spare held n 22 [c4] = some y4 := hg 4 _ rfl
    have g5 : DataW.trod enc Try.prog w base spare held n 22 [c5] = some y5 := hg 5 _ rfl
    obtain ⟨a0, e0, _, w0⟩ := DataW.trod_int Try.underlying22 g0
    obtain ⟨a1, e1, _, w1⟩ := DataW.trod_int Try.underlying22 g1
    obtain ⟨a2, e2, _, w2⟩ := DataW.trod_int Try.underlying22 g2
    obtain ⟨a3, e3, _, w3⟩ := DataW.trod_int Try.underlying5 g3
    obtain ⟨a4, e4, _, w4⟩ := DataW.trod_int Try.underlying22 g4
    obtain ⟨a5, e5, _, w5⟩ := DataW.trod_int Try.underlying22 g5
    simp at e0 e1 e2 e3 e4 e5
    subst e0 e1 e2 e3 e4 e5
    exact ⟨a0, a1, a2, a3, a4, a5, rfl, w0, w1, w2, w3, w4, w5⟩

/-- A list of ints that came in. -/
theorem open_list {H : Type} {enc : TypeId × Value → H} {w : World} {ao : Option Addr} {n cap : Nat} {d : DataW H} {ps : List MemPlace}
    (h : DataW.Trod enc Try.prog w 0 (fun _ => true) true 25 (.slice ao n cap) d ps) :
    ∃ zs : List Int, zs.length = n ∧ HasZ w ao zs ∧ (∀ z ∈ zs, -9223372036854775808 ≤ z ∧ z ≤ 9223372036854775807) ∧ n ≤ 9223372036854775807 := by
  obtain ⟨fuel, hf⟩ := h
  have hf' : DataW.trod enc Try.prog w 0 (fun _ => true) true fuel 25 [.slice ao n cap] = some (d, ps) := by simpa [Value.cells] using hf
  rcases open_ints Try.underlying25 Try.underlying3 cellsInt hf' with ⟨hcs, _⟩ | ⟨a, len, cap', zs, hcs, _, hl, hm, hz, hx, hcell, hwz⟩
  · simp at hcs
    obtain ⟨rfl, rfl, rfl⟩ := hcs
    exact ⟨[], rfl, ⟨fun _ => rfl, fun h => absurd rfl h⟩, by simp, by decide⟩
  · simp at hcs
    obtain ⟨rfl, rfl, rfl⟩ := hcs
    have hz' : zs.length = cap := by simpa using hz
    refine ⟨zs.take n, by simp; omega, ⟨by simp, ?_⟩, ?_, ?_⟩
    · intro hne
      have hp : 0 < zs.length := by cases zs with | nil => simp at hne | cons _ _ => simp
      obtain ⟨b, o, rfl, hc⟩ := ints_at hcell hp
      refine ⟨b, o, rfl, World.block_lt_of_cell? w _ (by simpa using hc 0 hp), fun j hj => ?_⟩
      rw [List.length_take] at hj
      rw [hc j (by omega), List.getD_eq_getElem?_getD, List.getD_eq_getElem?_getD, List.getElem?_take_of_lt (by omega)]
    · intro z hzz
      exact bounds_i64 (hwz z (List.mem_of_mem_take hzz))
    · unfold maxLen at hm
      omega

end Go.Proofs.Ytajphdppmdoalab

namespace Go.Proofs.Ytajphdppmdoalab
open Go.ChangeShapes Go.WideShapes Go.ChangeAt Go.RowKit Go.Deep
set_option linter.unusedVariables false

set_option maxRecDepth 100000 in
theorem pinned_lifted (os : Os) (started : os.Started) (H : Type) (enc : TypeId × Value → H) :
    ReturnsInHanded {} Try.checked os 3 .any (Rows.pinnedSpec.pre6 enc Try.prog Try.f3 Rows.pinnedRow.domain false) (Rows.pinnedSpec.post enc Try.prog Try.f3 false true false false) := by
  refine returnsInHanded_of_change (C := Try.checked) own3 started (by kernel_rfl) Try.func3
    (ChangeSpec.witness6 (enc := enc) (C := Try.checked) false ⟨#[], #[.agg #[.int .u16 0, .int .u16 0, .int .u16 0, .int .u8 0, .int .u16 0, .int .u16 0], .slice none 0 0, .int .i64 0, .int .i64 0, .int .i64 0], []⟩ 8 (by kernel_rfl) (by kernel_rfl) (by kernel_rfl) (by kernel_rfl)) ?_
  intro W base args ds gs before hval0 hW hcnd _
  have hval : ∀ (j : Nat) t v, Try.f3.params[j]? = some t → args[j]? = some v → Value.okWide Try.prog W .any base t v := hval0
  have hW' := hW
  obtain ⟨p, q, hA0, hV, rfl, hfz, hnd⟩ := hW
  have hA : DataW.TrodAll enc Try.prog W 0 (fun _ => true) true Try.f3.params.toList args.toList ds p := hA0
  rw [Try.params3] at hA hval
  obtain ⟨v0, vs0, d0, ds0, p0, q0, hargs, rfl, rfl, h0, r0⟩ := trodAll_cons hA
  obtain ⟨v1, vs1, d1, ds1, p1, q1, rfl, rfl, rfl, h1, r1⟩ := trodAll_cons r0
  obtain ⟨v2, vs2, d2, ds2, p2, q2, rfl, rfl, rfl, h2, r2⟩ := trodAll_cons r1
  obtain ⟨v3, vs3, d3, ds3, p3, q3, rfl, rfl, rfl, h3, r3⟩ := trodAll_cons r2
  obtain ⟨v4, vs4, d4, ds4, p4, q4, rfl, rfl, rfl, h4, r4⟩ := trodAll_cons r3
  obtain ⟨rfl, rfl, rfl⟩ := trodAll_nil r4
  obtain rfl : args = #[v0, v1, v2, v3, v4] := by cases args; simp_all
  obtain ⟨rfl, rfl⟩ := trodVars_none hV
  have k0 := h0
  have lt0 : ∀ x ∈ p0, x.block < W.heap.size := by obtain ⟨m, hm⟩ := k0; exact DataW.trod_lt m _ _ _ hm
  have k1 := h1
  have lt1 : ∀ x ∈ p1, x.block < W.heap.size := by obtain ⟨m, hm⟩ := k1; exact DataW.trod_lt m _ _ _ hm
  obtain ⟨src, dst, id, proto, sport, dport, rfl, z0, z1, z2, z3, z4, z5⟩ := open_flow3 (hval 0 24 v0 rfl rfl) h0
  obtain ⟨a1, len1, cap1, rfl⟩ := okWide_slice Try.underlying25 (hval 1 25 v1 rfl rfl)
  obtain ⟨zs, hzl, hzh, hzb, hzn⟩ := open_list h1
  obtain ⟨a2, rfl, rfl, rfl, w2⟩ := open_int Try.underlying3 (hval 2 3 v2 rfl rfl) h2
  obtain ⟨a3, rfl, rfl, rfl, w3⟩ := open_int Try.underlying3 (hval 3 3 v3 rfl rfl) h3
  obtain ⟨a4, rfl, rfl, rfl, w4⟩ := open_int Try.underlying3 (hval 4 3 v4 rfl rfl) h4
  clear hA0 hval0
  refine (pinned_any src dst id proto sport dport a2 a3 a4 zs len1 cap1 a1 W ⟨bounds_u16 z0, bounds_u16 z1, bounds_u16 z2, bounds_u8 z3, bounds_u16 z4, bounds_u16 z5⟩ hzl hzb hzh hzn (bounds_i64 w2) (bounds_i64 w3)).mono fun e W' ⟨he, bel⟩ => ?_
  subst he
  exact ⟨_, rfl, _, _, _, [], _, [], hW', trodAll_mk1 (shut_bool Try.underlying4 _), (trodAll_cons_mk (Below.trod laidOut3 (by kernel_rfl) (of_decide_eq_true (by kernel_rfl)) k0 bel lt0) (trodAll_cons_mk (Below.trod laidOut3 (by kernel_rfl) (of_decide_eq_true (by kernel_rfl)) k1 bel lt1) (trodAll_cons_mk (shut_int Try.underlying3 w2) (trodAll_cons_mk (shut_int Try.underlying3 w3) (trodAll_cons_mk (shut_int Try.underlying3 w4) trodAll_mk0))))), rfl, bel.frame _, fun h => by cases h⟩

theorem pinned_holds : Rows.PinnedSaid :=
  OpenClaim.holds_of_wide 3 Try.f3 rfl rfl rfl rfl rfl rfl rfl ⟨rfl, rfl, rfl, rfl, rfl⟩ rfl rfl rfl rfl rfl (by kernel_rfl) Try.func3 (by kernel_rfl)
    (of_decide_eq_true (by kernel_rfl)) (by unfold Func.isWrapper; first | (rw [if_pos (by decide +kernel)]; kernel_rfl) | (rw [if_neg (by decide +kernel)]; exact ⟨rfl, rfl⟩))
    (fun os started H enc _ => pinned_lifted os started H enc)

end Go.Proofs.Ytajphdppmdoalab

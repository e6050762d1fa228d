import Derived.Test.YtajphdppmdoalaaZQKtoQE
import Derived.Test.YtajphdppmdoalaaZJ1toLP
namespace Go.Proofs.Ytajphdppmdoalaa
open Go.RowKit
set_option linter.unusedVariables false

/-- A cluster, and a row of packets beside it that none of its calls writes; so the blocks E. -/
def Bes (w : World) (base g cv : Nat) (L : List PV) (xb : Nat) (E : Nat → Prop) (S : Cl) (wz : World) : Prop :=
  ∃ w1, PkL w1 base (.slice (some ⟨g, 0, none⟩) L.length cv) L ∧ g < w1.heap.size ∧ Kp (fun k => base ≤ k ∧ k < w1.heap.size) w1 wz ∧ At w (fun k => (base ≤ k ∧ k < w1.heap.size) ∨ E k) xb S wz
theorem Bes.pk {w wz : World} {base g cv : Nat} {L : List PV} {xb : Nat} {E : Nat → Prop} {S : Cl} (h : Bes w base g cv L xb E S wz) : PkL wz base (.slice (some ⟨g, 0, none⟩) L.length cv) L ∧ g < wz.heap.size := by
  obtain ⟨w1, h1, h2, h3, h4⟩ := h
  exact ⟨h1.kept h3 (fun k a b => ⟨a, b⟩), Nat.lt_of_lt_of_le h2 h3.size⟩
theorem Bes.bel {w wz : World} {base g cv : Nat} {L : List PV} {xb : Nat} {E : Nat → Prop} {S : Cl} (h : Bes w base g cv L xb E S wz) : Below w.heap.size w wz := by
  obtain ⟨w1, h1, h2, h3, h4⟩ := h
  exact h4.bel
theorem Bes.below {w wz w' : World} {base g cv : Nat} {L : List PV} {xb : Nat} {E : Nat → Prop} {S : Cl} (h : Bes w base g cv L xb E S wz) (hb : Below wz.heap.size wz w') : Bes w base g cv L xb E S w' := by
  obtain ⟨w1, h1, h2, h3, h4⟩ := h
  exact ⟨w1, h1, h2, h3.trans (Kp.below hb), h4.below hb⟩
theorem Bes.less {w wz : World} {base g cv : Nat} {L : List PV} {xb : Nat} {E E' : Nat → Prop} {S : Cl} (h : Bes w base g cv L xb E S wz) (he : ∀ k, E' k → E k) : Bes w base g cv L xb E' S wz := by
  obtain ⟨w1, h1, h2, h3, h4⟩ := h
  exact ⟨w1, h1, h2, h3, h4.less (fun k hk => hk.elim .inl (fun hk => .inr (he k hk)))⟩
theorem Bes.plus {w wz w' : World} {base g cv : Nat} {L : List PV} {xb : Nat} {E : Nat → Prop} {S : Cl} (h : Bes w base g cv L xb E S wz) (hb : Below wz.heap.size wz w') (b : Nat) (hb1 : wz.heap.size ≤ b) (hb2 : b < w'.heap.size) : Bes w base g cv L xb (fun k => E k ∨ k = b) S w' := by
  obtain ⟨w1, h1, h2, h3, h4⟩ := h
  refine ⟨w1, h1, h2, h3.trans (Kp.below hb), (h4.plus hb b hb1 hb2).less (fun k hk => ?_)⟩
  rcases hk with hk | hk | hk
  · exact .inl (.inl hk)
  · exact .inl (.inr hk)
  · exact .inr hk
/-- What each call of the cluster does, with the row of packets beside it. -/
theorem Bes.step {w wz : World} {base g cv : Nat} {L : List PV} {xb : Nat} {E : Nat → Prop} {S : Cl} (h : Bes w base g cv L xb E S wz) : ∃ G, At w G xb S wz ∧ (∀ k, E k → G k) ∧ ∀ S' w', At w G xb S' w' → Kp G wz w' → Bes w base g cv L xb E S' w' := by
  obtain ⟨w1, h1, h2, h3, h4⟩ := h
  exact ⟨_, h4, fun k hk => .inr hk, fun S' w' ha hk => ⟨w1, h1, h2, h3.trans (hk.less (fun k hk => .inl hk)), ha⟩⟩
theorem Bes.start {w wz w1 : World} {g cv : Nat} {L : List PV} {xb : Nat} {G : Nat → Prop} {S : Cl} (h : At w G xb S wz) (hb : Below wz.heap.size wz w1) (hp : PkL w1 wz.heap.size (.slice (some ⟨g, 0, none⟩) L.length cv) L) : Bes w wz.heap.size g cv L xb (fun _ => False) S w1 := by
  refine ⟨w1, hp, (hp.1.lt g rfl).2, Kp.refl _ _, (h.plusAll hb).less (fun k hk => ?_)⟩
  rcases hk with hk | hk
  · exact .inr hk
  · exact hk.elim
theorem bes_arrive (w wz : World) (base g cv : Nat) (L : List PV) (xb : Nat) (E : Nat → Prop) (S : Cl) (h : Bes w base g cv L xb E S wz) (hg : Good S) (rep : Int) (x : PV) (hx : PkG x.p) (b n cb : Nat) (hn : S.next ≤ 1900000000000) (hr0 : 0 ≤ rep) (hr1 : rep < S.reps) (hl : x.bytes.length = n) (hcap : n ≤ cb) (hcm : cb ≤ maxLen) (hd : Has wz (some ⟨b, 0, none⟩) x.bytes) (hE : E b) :
    Calls Try.prog 19 #[.pointer (some ⟨xb, 0, none⟩), .int .i64 rep, .slice (some ⟨b, 0, none⟩) n cb] wz fun e w' => e = .returned (.tuple #[.int .i64 S.next, .int .i64 0]) ∧ Bes w base g cv L xb E (arriveM S rep (some x.p)) w' ∧ Kp E wz w' ∧ Good (arriveM S rep (some x.p)) := by
  obtain ⟨G, hA, hEG, hst⟩ := h.step
  refine (at_arrive xb S G rep x.bytes b n cb w wz hA hg.sml hg.uq hn hr0 hr1 hl hcap hcm hd (bytes_bd x hx) (hEG b hE)).mono ?_
  rintro e w' ⟨rfl, a1, a2⟩
  have hgd := good_arrive S rep (upK x.bytes) hg (by omega) (fun p hp => upK_ok x.bytes (bytes_bd x hx) p hp)
  rw [bytes_up x hx] at a1 hgd
  exact ⟨rfl, hst _ _ a1 a2, a2.less hEG, hgd⟩

theorem one_gen (T : List Int) (z : Int) (hlen : T.length = 31) (hbd : ∀ y ∈ T, 0 ≤ y ∧ y ≤ 255) (hsh : ∀ b : Nat, b < 256 → (b : Int) ∉ [z] → T.count (b : Int) = 0) (i : Nat) (hi : i < 31) : T.getD i 0 = z := by
  have hmem : T.getD i 0 ∈ T := by
    rw [List.getD_eq_getElem?_getD, List.getElem?_eq_getElem (by omega)]
    exact List.getElem_mem _
  generalize T.getD i 0 = y at hmem ⊢
  obtain ⟨b, rfl⟩ := Int.eq_ofNat_of_zero_le (hbd y hmem).1
  have hb := (hbd _ hmem).2
  by_cases hbz : (b : Int) ∈ [z]
  · exact List.mem_singleton.1 hbz
  · have hc := hsh b (by omega) hbz
    exact absurd (List.count_pos_iff.2 hmem) (by omega)
theorem asc_one (z : Int) (hz : 0 ≤ z ∧ z ≤ 255) : (asc [z]).length = [z].length := (asc_len [z] (fun y hy => by rw [List.mem_singleton.1 hy]; exact hz)).2.2 (by rw [nd, nd]; rfl)
theorem tE_one (z : Int) (hz : 0 ≤ z ∧ z ≤ 255) : tE [z] = 0 := tE_nd [z] (by rw [nd, nd]; rfl) (by simp) (by simp) (fun y hy => by rw [List.mem_singleton.1 hy]; exact hz)
theorem share_one (z : Int) (hz : 0 ≤ z ∧ z ≤ 255) (b : Nat) (hb : b < 256) (hn : (b : Int) ∉ [z]) : (tbl [z]).count (b : Int) = 0 := by
  have ha := asc_one z hz
  rw [share [z] b hb (by rw [ha]; simp) (by rw [ha]; simp), if_neg hn]
/-- The table of one backend has it everywhere. -/
theorem tbl_one (z : Int) (hz : 0 ≤ z ∧ z ≤ 255) (i : Nat) (hi : i < 31) : (tblOf [z]).getD i 0 = z :=
  one_gen (tblOf [z]) z (by rw [(tE_tbl [z] (tE_one z hz)).1]; exact (tE_tbl [z] (tE_one z hz)).2) (tbl_bd' [z]) (fun b hb hn => by rw [(tE_tbl [z] (tE_one z hz)).1]; exact share_one z hz b hb hn) i hi

/-- The events of the first pieces, each with the one that was sent once more. -/
def evP (tb : Int) : Nat → List Ev
  | 0 => []
  | n + 1 => evP tb n ++ [⟨2 * n, 0, tb⟩, ⟨2 * n + 1, 3, 0⟩]
theorem evP_len (tb : Int) (n : Nat) : (evP tb n).length = 2 * n := by
  induction n with
  | zero => rfl
  | succ n ih => rw [evP, List.length_append, ih]; simp; omega
theorem evP_get (tb : Int) (n q : Nat) (h : q < 2 * n) : (evP tb n)[q]? = some ⟨q, if q % 2 = 1 then 3 else 0, if q % 2 = 1 then 0 else tb⟩ := by
  induction n with
  | zero => omega
  | succ n ih =>
    rw [evP]
    by_cases hq : q < 2 * n
    · rw [List.getElem?_append_left (by rw [evP_len]; exact hq)]
      exact ih hq
    · rw [List.getElem?_append_right (by rw [evP_len]; omega), evP_len]
      by_cases h2 : q = 2 * n
      · subst h2
        rw [Nat.sub_self, if_neg (by omega), if_neg (by omega)]
        rfl
      · obtain rfl : q = 2 * n + 1 := by omega
        rw [show 2 * n + 1 - 2 * n = 1 by omega, if_pos (by omega), if_pos (by omega)]
        rfl
/-- Which have come behind i pieces. -/
def comeP (ps : List Pk) (i : Nat) : List (Nat × Pk) := ((ps.take i).zipIdx).map (fun x => (2 * x.2, x.1))
theorem comeP_map (ps : List Pk) (i : Nat) : (comeP ps i).map (·.2) = ps.take i := by
  unfold comeP
  rw [List.map_map]
  show ((ps.take i).zipIdx).map (fun x => x.1) = _
  rw [List.zipIdx_map_fst]
theorem comeP_snoc (ps : List Pk) (i : Nat) (p : Pk) (h : ps[i]? = some p) : comeP ps (i + 1) = comeP ps i ++ [(2 * i, p)] := by
  have hi := (List.getElem?_eq_some_iff.1 h).1
  unfold comeP
  rw [List.take_add_one, h, Option.toList_some, List.zipIdx_append, List.map_append, List.length_take, Nat.min_eq_left (by omega)]
  simp
theorem drop_at (ps : List Pk) (i : Nat) (p : Pk) (h : ps[i]? = some p) : ps.drop i = p :: ps.drop (i + 1) := by
  have hi := List.getElem?_eq_some_iff.1 h
  rw [← hi.2, List.getElem_cons_drop]

/-- The pieces of the datagram, and what is known of them. -/
structure DgF (sport dport : Int) (k : Pk) (ps : List Pk) (E : Int) : Prop where
  dat : Dat k ps E
  good : ∀ p ∈ ps, PkG p
  piece : ∀ p ∈ ps, wholePk p = false
  first : ∀ p : Pk, ps[0]? = some p → p.off = 0 ∧ p.sport = sport ∧ p.dport = dport
  later : ∀ (i : Nat) (p : Pk), ps[i]? = some p → p.off = 0 → i = 0
  two : 2 ≤ ps.length ∧ ps.length ≤ 8
theorem dg_facts (src dst id proto sport dport : Int) (m : Nat) (hm : m ≤ 7) (tail : Int) (L : List PV) (h : DgOK src dst id proto sport dport m tail L) (hs : 0 ≤ src ∧ src ≤ 65535) (hd : 0 ≤ dst ∧ dst ≤ 65535) (hp : 0 ≤ proto ∧ proto ≤ 255) (hi : 0 ≤ id ∧ id ≤ 65535) (hsp : 0 ≤ sport ∧ sport ≤ 65535) (hdp : 0 ≤ dport ∧ dport ≤ 65535) :
    ∃ E, DgF sport dport ⟨src, dst, proto, id, 0, false, 0, 0, 0⟩ (L.map PV.p) E := by
  have hlen := h.len
  obtain ⟨r, t, h1, h2, h3, h4, h5, h6, h7⟩ := h
  have hpk := pk_bd tail 32 (by decide)
  have hr : r ≠ [] := by rintro rfl; simp at h5
  obtain ⟨p0, ps', hc, hf0, hfl⟩ := cut_first src dst proto id sport dport 0 r t h2
  rw [h1]
  refine ⟨_, cut_dat src dst proto id sport dport 0 r t rfl h2 (by omega) _ ⟨rfl, rfl, rfl, rfl⟩, cut_good src dst proto id sport dport 0 r t (m + 1) (by omega) h2 h3 h4 (by omega) hs hd hp hi hsp hdp, cut_pieces src dst proto id sport dport r t h2 hr, ?_, ?_, ?_⟩
  · intro p hp'
    cases r with
    | nil => exact absurd rfl hr
    | cons v r =>
      simp only [cutD, List.getElem?_cons_zero, Option.some.injEq] at hp'
      subst hp'
      exact ⟨rfl, rfl, rfl⟩
  · intro i p hp' h0
    cases i with
    | zero => rfl
    | succ i =>
      rw [hc, List.getElem?_cons_succ] at hp'
      have := hfl p (List.mem_of_getElem? hp')
      omega
  · rw [cut_length]
    omega

end Go.Proofs.Ytajphdppmdoalaa

namespace Go.Proofs.Ytajphdppmdoalaa
open Go.RowKit
set_option linter.unusedVariables false

/-- What a datagram's flow has, by the table of l. -/
def tofP (src dst proto sport dport : Int) (l : List Int) : Int := (tblOf l).getD ((flH src dst proto sport dport).toNat % 31) 0
def kP (src dst proto id : Int) : Pk := ⟨src, dst, proto, id, 0, false, 0, 0, 0⟩
/-- The state behind i pieces. -/
structure PinS (src dst proto id sport dport ob : Int) (l : List Int) (ps : List Pk) (i : Nat) (S : Cl) : Prop where
  good : Good S
  reps : S.reps = 1
  now : S.now = 0
  full : S.slots.length = 31
  slots : (i = 0 → S.slots = tblOf l) ∧ (2 ≤ i → S.slots = tblOf [ob])
  ti : TI S 0 0 (tofP src dst proto sport dport l) (kP src dst proto id) ps (comeP ps i) (ps.drop i)
  evs : (i < ps.length → S.evs = evP (tofP src dst proto sport dport l) i ∧ S.next = 2 * i) ∧ (i = ps.length → S.evs = evP (tofP src dst proto sport dport l) (ps.length - 1) ++ [⟨2 * (ps.length - 1), 0, tofP src dst proto sport dport l⟩] ∧ S.next = 2 * ps.length - 1)
theorem owner_zero (S : Cl) (h : S.reps = 1) (p : Pk) : ownerM S p = 0 := by
  unfold ownerM
  rw [h]
  omega
theorem kn_come (sport dport : Int) (k : Pk) (ps : List Pk) (E : Int) (hd : DgF sport dport k ps E) (i : Nat) (hi : 0 < i) (hil : i ≤ ps.length) : kn (comeP ps i) = true := by
  have h2 := hd.two
  obtain ⟨p0, hp0⟩ : ∃ p, ps[0]? = some p := ⟨_, List.getElem?_eq_getElem (by omega)⟩
  have hm : p0 ∈ (comeP ps i).map (·.2) := by
    rw [comeP_map]
    refine List.mem_of_getElem? (i := 0) ?_
    rw [List.getElem?_take_of_lt hi]
    exact hp0
  obtain ⟨x, hx, rfl⟩ := List.mem_map.1 hm
  unfold kn
  exact List.any_eq_true.2 ⟨x, hx, by rw [decide_eq_true (hd.first x.2 hp0).1]⟩
theorem tbl_full (l : List Int) (h : BkOK l) : (tblOf l).length = 31 ∧ tblOf l ≠ [] := by
  have h1 := tE_tbl l (tE_nd l h.1 h.2.1 h.2.2.1 h.2.2.2)
  rw [← h1.1] at h1
  have h2 := h1.2
  exact ⟨h2, fun hh => by rw [hh] at h2; cases h2⟩
/-- A piece comes that is the next one. -/
theorem pin_one (src dst proto id sport dport ob : Int) (l : List Int) (ps : List Pk) (E : Int) (i : Nat) (S : Cl) (p : Pk) (hd : DgF sport dport (kP src dst proto id) ps E) (h : PinS src dst proto id sport dport ob l ps i S) (hi : ps[i]? = some p) (hn : S.next ≤ 100) :
    ∃ S', S' = arriveM S 0 (some p) ∧ S'.reps = 1 ∧ S'.now = 0 ∧ S'.slots = S.slots ∧ S'.next = 2 * i + 1 ∧ S'.evs = evP (tofP src dst proto sport dport l) i ++ [⟨2 * i, 0, tofP src dst proto sport dport l⟩] ∧ TI S' 0 0 (tofP src dst proto sport dport l) (kP src dst proto id) ps (comeP ps (i + 1)) (ps.drop (i + 1)) := by
  have hil := (List.getElem?_eq_some_iff.1 hi).1
  have hev := h.evs.1 hil
  have hpm := List.mem_of_getElem? hi
  have har := arrive_come S 0 p (hd.piece p hpm) (owner_zero S h.reps p)
  have hti := h.ti.next (S.next + 1)
  rw [drop_at ps i p hi] at hti
  have hk : kn (comeP ps i) = true ∨ comeP ps i = [] ∧ p.off = 0 ∧ (0 : Int) = ({ S with next := S.next + 1 } : Cl).now ∧ chosenM { S with next := S.next + 1 } p = tofP src dst proto sport dport l ∧ ({ S with next := S.next + 1 } : Cl).slots ≠ [] := by
    by_cases hi0 : i = 0
    · subst hi0
      obtain ⟨f1, f2, f3⟩ := hd.first p hi
      obtain ⟨g1, g2, g3, g4⟩ := hd.dat.same p hpm
      refine .inr ⟨rfl, f1, h.now.symm, ?_, fun hh => ?_⟩
      · unfold chosenM tofP
        rw [f2, f3, ← g1, ← g2, ← g3]
        show S.slots.getD _ 0 = _
        rw [h.slots.1 rfl]
        rfl
      · have hf := h.full
        rw [show S.slots = [] from hh] at hf
        cases hf
    · exact .inl (kn_come sport dport _ ps E hd i (by omega) (by omega))
  obtain ⟨t1, t2, t3⟩ := ti_next { S with next := S.next + 1 } 0 0 (tofP src dst proto sport dport l) (kP src dst proto id) ps E (comeP ps i) (ps.drop (i + 1)) S.next p hd.dat hti (owner_zero _ h.reps p) hk (fun h0 => by
    have := hd.later i p hi h0
    subst this
    rfl)
  have hsm := piece_same { S with next := S.next + 1 } S.next p
  refine ⟨_, rfl, ?_⟩
  rw [har]
  refine ⟨hsm.1.trans h.reps, hsm.2.2.1.trans h.now, hsm.2.2.2.2.1, ?_, ?_, ?_⟩
  · rw [hsm.2.2.2.1]
    show S.next + 1 = _
    omega
  · rw [t2, hev.2]
    show S.evs ++ _ = _
    rw [hev.1]
  · rw [comeP_snoc ps i p hi]
    have := t1
    rw [hev.2] at this ⊢
    exact this

end Go.Proofs.Ytajphdppmdoalaa

namespace Go.Proofs.Ytajphdppmdoalaa
open Go.RowKit
set_option linter.unusedVariables false

/-- The flow's numbers are in their bounds. -/
def FlOK (src dst id proto sport dport : Int) : Prop := (0 ≤ src ∧ src ≤ 65535) ∧ (0 ≤ dst ∧ dst ≤ 65535) ∧ (0 ≤ id ∧ id ≤ 65535) ∧ (0 ≤ proto ∧ proto ≤ 255) ∧ (0 ≤ sport ∧ sport ≤ 65535) ∧ (0 ≤ dport ∧ dport ≤ 65535)
def PinI (w : World) (src dst proto id sport dport ob : Int) (l : List Int) (base g cv : Nat) (L : List PV) (xb i : Nat) (wz : World) : Prop :=
  BkOK l ∧ (∃ E, DgF sport dport (kP src dst proto id) (L.map PV.p) E) ∧ i ≤ L.length ∧ ∃ S, PinS src dst proto id sport dport ob l (L.map PV.p) i S ∧ (i = 1 → S.slots = tblOf l) ∧ Bes w base g cv L xb (fun _ => False) S wz
def PinJ (w : World) (src dst proto id sport dport ob : Int) (l : List Int) (base g cv : Nat) (L : List PV) (xb i : Nat) (wz : World) : Prop :=
  BkOK l ∧ (∃ E, DgF sport dport (kP src dst proto id) (L.map PV.p) E) ∧ i ≤ L.length ∧ ∃ S, PinS src dst proto id sport dport ob l (L.map PV.p) i S ∧ (i = 1 → S.slots = tblOf [ob]) ∧ Bes w base g cv L xb (fun _ => False) S wz
def PinK (w : World) (src dst proto id sport dport ob : Int) (l : List Int) (base g cv : Nat) (L : List PV) (xb i gb cb : Nat) (wz : World) : Prop :=
  BkOK l ∧ (∃ E, DgF sport dport (kP src dst proto id) (L.map PV.p) E) ∧ i < L.length ∧ ∃ S x, L[i]? = some x ∧ Good S ∧ S.reps = 1 ∧ S.now = 0 ∧ S.slots.length = 31 ∧ (i = 0 → S.slots = tblOf l) ∧ (1 ≤ i → S.slots = tblOf [ob]) ∧ S.next = 2 * i + 1 ∧ S.evs = evP (tofP src dst proto sport dport l) i ++ [⟨2 * i, 0, tofP src dst proto sport dport l⟩] ∧ TI S 0 0 (tofP src dst proto sport dport l) (kP src dst proto id) (L.map PV.p) (comeP (L.map PV.p) (i + 1)) ((L.map PV.p).drop (i + 1)) ∧ Has wz (some ⟨gb, 0, none⟩) x.bytes ∧ x.bytes.length ≤ cb ∧ cb ≤ maxLen ∧ gb < wz.heap.size ∧ Bes w base g cv L xb (fun k => k = gb) S wz
def PinM (w : World) (src dst proto id sport dport ob : Int) (l : List Int) (base g cv : Nat) (L : List PV) (xb gh : Nat) (wz : World) : Prop :=
  BkOK l ∧ (∃ E, DgF sport dport (kP src dst proto id) (L.map PV.p) E) ∧ gh < wz.heap.size ∧ ∃ S, PinS src dst proto id sport dport ob l (L.map PV.p) L.length S ∧ Bes w base g cv L xb (fun k => k = gh) S wz
def PinM2 (w : World) (src dst proto id sport dport ob : Int) (l : List Int) (base g cv : Nat) (L : List PV) (xb gh : Nat) (wz : World) : Prop :=
  gh < wz.heap.size ∧ 2 ≤ L.length ∧ ∃ S, S.evs = evP (tofP src dst proto sport dport l) (L.length - 1) ++ [⟨2 * (L.length - 1), 0, tofP src dst proto sport dport l⟩, ⟨2 * L.length - 1, 0, ob⟩] ∧ Bes w base g cv L xb (fun k => k = gh) S wz

theorem map_get {L : List PV} {i : Nat} {x : PV} (h : L[i]? = some x) : (L.map PV.p)[i]? = some x.p := by rw [List.getElem?_map, h]; rfl

end Go.Proofs.Ytajphdppmdoalaa

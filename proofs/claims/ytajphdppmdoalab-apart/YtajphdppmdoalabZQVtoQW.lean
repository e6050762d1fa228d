import Derived.Test.YtajphdppmdoalabZQUtoQM
import Derived.Test.YtajphdppmdoalabZQPtoQQ
import Derived.Test.YtajphdppmdoalabRows
import Derived.Test.YtajphdppmdoalabZQAtoQI
import Derived.WalkKit
import Derived.ProofKit
import Derived.OpenShut
import Derived.ShutString
import Derived.ChangeOld
import Derived.Below
import Derived.SizedLaws
import Derived.Deep.Slices
namespace Go.Proofs.Ytajphdppmdoalab
open Go.RowKit
set_option linter.unusedVariables false

def evA (tb : Int) : Nat → List Ev
  | 0 => [⟨0, 5, 0⟩]
  | n + 1 => evA tb n ++ [⟨n + 1, 0, tb⟩]
theorem evA_len (tb : Int) (n : Nat) : (evA tb n).length = n + 1 := by
  induction n with
  | zero => rfl
  | succ n ih => rw [evA, List.length_append, ih]; rfl
theorem evA_zero (tb : Int) (n : Nat) : (evA tb n)[0]? = some ⟨0, 5, 0⟩ := by
  induction n with
  | zero => rfl
  | succ n ih => rw [evA, List.getElem?_append_left (by rw [evA_len]; omega)]; exact ih
theorem evA_get (tb : Int) (n q : Nat) (h : q < n) : (evA tb n)[q + 1]? = some ⟨q + 1, 0, tb⟩ := by
  induction n with
  | zero => omega
  | succ n ih =>
    rw [evA]
    by_cases hq : q < n
    · rw [List.getElem?_append_left (by rw [evA_len]; omega)]
      exact ih hq
    · obtain rfl : q = n := by omega
      rw [List.getElem?_append_right (by rw [evA_len]; exact Nat.le_refl _), evA_len, Nat.sub_self]
      rfl
def comeA (ps : List Pk) (i : Nat) : List (Nat × Pk) := ((ps.take i).zipIdx).map (fun x => (x.2 + 1, x.1))
theorem comeA_map (ps : List Pk) (i : Nat) : (comeA ps i).map (·.2) = ps.take i := by
  unfold comeA
  rw [List.map_map]
  show ((ps.take i).zipIdx).map (fun x => x.1) = _
  rw [List.zipIdx_map_fst]
theorem comeA_snoc (ps : List Pk) (i : Nat) (p : Pk) (h : ps[i]? = some p) : comeA ps (i + 1) = comeA ps i ++ [(i + 1, p)] := by
  have hi := (List.getElem?_eq_some_iff.1 h).1
  unfold comeA
  rw [List.take_add_one, h, Option.toList_some, List.zipIdx_append, List.map_append, List.length_take, Nat.min_eq_left (by omega)]
  simp
theorem kn_comeA (sport dport : Int) (k : Pk) (ps : List Pk) (E : Int) (hd : DgF sport dport k ps E) (i : Nat) (hi : 0 < i) (hil : i ≤ ps.length) : kn (comeA ps i) = true := by
  have h2 := hd.two
  obtain ⟨p0, hp0⟩ : ∃ p, ps[0]? = some p := ⟨_, List.getElem?_eq_getElem (by omega)⟩
  have hm : p0 ∈ (comeA ps i).map (·.2) := by
    rw [comeA_map]
    refine List.mem_of_getElem? (i := 0) ?_
    rw [List.getElem?_take_of_lt hi]
    exact hp0
  obtain ⟨x, hx, rfl⟩ := List.mem_map.1 hm
  unfold kn
  exact List.any_eq_true.2 ⟨x, hx, by rw [decide_eq_true (hd.first x.2 hp0).1]⟩

/-- The state behind i pieces (the last one was lost ahead of them). -/
structure ApS (src dst proto id sport dport : Int) (N o : Nat) (l : List Int) (ps : List Pk) (i : Nat) (sn : List Snt) (nx : Nat) (S : Cl) : Prop where
  good : Good S
  reps : S.reps = (N : Int)
  now : S.now = 0
  slots : S.slots = tblOf l
  sent : S.sent = sn
  next : S.next = nx
  evs : S.evs = evA (tofP src dst proto sport dport l) i
  ti : TI S o 0 (tofP src dst proto sport dport l) (kP src dst proto id) ps (comeA ps i) (ps.drop i)
theorem owner_of (src dst proto id sport dport : Int) (N o : Nat) (ps : List Pk) (E : Int) (hd : DgF sport dport (kP src dst proto id) ps E) (ho : dgH src dst proto id % (N : Int) = (o : Int)) (S : Cl) (hr : S.reps = (N : Int)) (p : Pk) (hp : p ∈ ps) : ownerM S p = (o : Int) := by
  obtain ⟨g1, g2, g3, g4⟩ := hd.dat.same p hp
  unfold ownerM
  rw [hr, ← g1, ← g2, ← g3, ← g4]
  exact ho
/-- The next piece comes. -/
theorem ap_piece (src dst proto id sport dport : Int) (N o : Nat) (l : List Int) (ps : List Pk) (E : Int) (i : Nat) (S S' : Cl) (p : Pk) (hd : DgF sport dport (kP src dst proto id) ps E) (hb : BkOK l) (ho : dgH src dst proto id % (N : Int) = (o : Int)) (hti : TI S o 0 (tofP src dst proto sport dport l) (kP src dst proto id) ps (comeA ps i) (ps.drop i)) (hr : S.reps = (N : Int)) (hnow : S.now = 0) (hsl : S.slots = tblOf l) (hi : ps[i]? = some p) (hS' : S' = pieceM S (i + 1) p) :
    S'.reps = S.reps ∧ S'.now = S.now ∧ S'.slots = S.slots ∧ S'.sent = S.sent ∧ S'.next = S.next ∧ S'.evs = S.evs ++ [⟨i + 1, 0, tofP src dst proto sport dport l⟩] ∧ TI S' o 0 (tofP src dst proto sport dport l) (kP src dst proto id) ps (comeA ps (i + 1)) (ps.drop (i + 1)) := by
  have hil := (List.getElem?_eq_some_iff.1 hi).1
  have hpm := List.mem_of_getElem? hi
  rw [drop_at ps i p hi] at hti
  have hk : kn (comeA ps i) = true ∨ comeA ps i = [] ∧ p.off = 0 ∧ (0 : Int) = S.now ∧ chosenM S p = tofP src dst proto sport dport l ∧ S.slots ≠ [] := by
    by_cases hi0 : i = 0
    · subst hi0
      obtain ⟨f1, f2, f3⟩ := hd.first p hi
      obtain ⟨g1, g2, g3, g4⟩ := hd.dat.same p hpm
      refine .inr ⟨rfl, f1, hnow.symm, ?_, ?_⟩
      · unfold chosenM tofP
        rw [f2, f3, ← g1, ← g2, ← g3, hsl]
        rfl
      · rw [hsl]
        exact (tbl_full l hb).2
    · exact .inl (kn_comeA sport dport _ ps E hd i (by omega) (by omega))
  obtain ⟨t1, t2, t3⟩ := ti_next S o 0 (tofP src dst proto sport dport l) (kP src dst proto id) ps E (comeA ps i) (ps.drop (i + 1)) (i + 1) p hd.dat hti (owner_of src dst proto id sport dport N o ps E hd ho S hr p hpm) hk (fun h0 => by
    have := hd.later i p hi h0
    subst this
    rfl)
  have hsm := piece_same S (i + 1) p
  rw [← hS'] at t1 t2 hsm
  refine ⟨hsm.1, hsm.2.2.1, hsm.2.2.2.2.1, hsm.2.2.2.2.2, hsm.2.2.2.1, t2, ?_⟩
  rw [comeA_snoc ps i p hi]
  exact t1

def ApI (w : World) (src dst proto id sport dport : Int) (N : Nat) (l : List Int) (base g cv : Nat) (L : List PV) (xb : Nat) (wz : World) : Prop :=
  BkOK l ∧ (∃ E, DgF sport dport (kP src dst proto id) (L.map PV.p) E) ∧ ∃ S, Good S ∧ S.reps = (N : Int) ∧ S.now = 0 ∧ S.slots = tblOf l ∧ S.ents = [] ∧ S.sent = [] ∧ S.evs = [] ∧ S.next = 0 ∧ Bes w base g cv L xb (fun _ => False) S wz
def ApY (w : World) (src dst proto id sport dport : Int) (N : Nat) (l : List Int) (base g cv : Nat) (L : List PV) (xb : Nat) (wz : World) : Prop :=
  BkOK l ∧ (∃ E, DgF sport dport (kP src dst proto id) (L.map PV.p) E) ∧ ∃ S, Good S ∧ S.reps = (N : Int) ∧ S.now = 0 ∧ S.slots = tblOf l ∧ S.ents = [] ∧ (∃ s, S.sent = [s] ∧ s.seq = 0) ∧ S.evs = [] ∧ S.next = 1 ∧ Bes w base g cv L xb (fun _ => False) S wz
def ApJ (w : World) (src dst proto id sport dport : Int) (N o : Nat) (l : List Int) (base g cv : Nat) (L : List PV) (xb i : Nat) (wz : World) : Prop :=
  BkOK l ∧ (∃ E, DgF sport dport (kP src dst proto id) (L.map PV.p) E) ∧ i ≤ L.length ∧ ∃ S, ApS src dst proto id sport dport N o l (L.map PV.p) i [] (i + 1) S ∧ Bes w base g cv L xb (fun _ => False) S wz
def ApU (w : World) (src dst proto id sport dport : Int) (N o a : Nat) (l : List Int) (base g cv : Nat) (L : List PV) (xb i : Nat) (wz : World) : Prop :=
  BkOK l ∧ (∃ E, DgF sport dport (kP src dst proto id) (L.map PV.p) E) ∧ ∃ S p, (L.map PV.p)[i]? = some p ∧ ApS src dst proto id sport dport N o l (L.map PV.p) i [⟨i + 1, a, o, p⟩] (i + 2) S ∧ Bes w base g cv L xb (fun _ => False) S wz
def ApV (w : World) (N : Nat) (xb : Nat) (wz : World) : Prop := ∃ S G, Good S ∧ S.reps = (N : Int) ∧ S.ents = [] ∧ At w G xb S wz

set_option maxHeartbeats 800000 in
theorem apart_any (src dst id proto sport dport tail replicas backends : Int) (zs : List Int) (n cap : Nat) (ao : Option Addr) (w : World) (hfl : FlOK src dst id proto sport dport) (hl : zs.length = n) (hz : ∀ z ∈ zs, -9223372036854775808 ≤ z ∧ z ≤ 9223372036854775807) (hd : HasZ w ao zs) (hn : n ≤ 9223372036854775807) (ht : -9223372036854775808 ≤ tail ∧ tail ≤ 9223372036854775807) (hbk : -9223372036854775808 ≤ backends ∧ backends ≤ 9223372036854775807) (hrp : -9223372036854775808 ≤ replicas ∧ replicas ≤ 9223372036854775807) :
    Calls Try.prog 4 #[.agg #[.int .u16 src, .int .u16 dst, .int .u16 id, .int .u8 proto, .int .u16 sport, .int .u16 dport], .slice ao n cap, .int .i64 tail, .int .i64 replicas, .int .i64 backends] w fun e w' => e = .returned (.bool true) ∧ Below w.heap.size w w' := by
  obtain ⟨f1, f2, f3, f4, f5, f6⟩ := hfl
  have b1 := pk_bd replicas 4 (by decide)
  obtain ⟨N, hN⟩ := Int.eq_ofNat_of_zero_le (show 0 ≤ 2 + pk replicas 4 by omega)
  have hN1 : 2 ≤ N ∧ N ≤ 5 := by omega
  have hdm := Int.emod_nonneg (dgH src dst proto id) (show (N : Int) ≠ 0 by omega)
  have hdl := Int.emod_lt_of_pos (dgH src dst proto id) (show (0 : Int) < (N : Int) by omega)
  obtain ⟨o, ho⟩ := Int.eq_ofNat_of_zero_le hdm
  have hoN : o < N := by omega
  obtain ⟨a, ha⟩ : ∃ a, (o + 1) % N = a := ⟨_, rfl⟩
  have haN : a < N := by rw [← ha]; exact Nat.mod_lt _ (by omega)
  have hao : a ≠ o := by
    by_cases h1 : o + 1 < N
    · rw [Nat.mod_eq_of_lt h1] at ha
      omega
    · have : o + 1 = N := by omega
      rw [this, Nat.mod_self] at ha
      omega
  refine apart_core src dst id proto sport dport tail replicas backends zs n cap N o a ao w hl hz hd hn ht hbk hrp hN hoN ha (tofP src dst proto sport dport) (fun l xb wz => BkOK l ∧ At w (fun _ => False) xb (backM (Cl.new N 9) (tblOf l)) wz)
    (ApI w src dst proto id sport dport N) (ApY w src dst proto id sport dport N) (ApJ w src dst proto id sport dport N o) (ApU w src dst proto id sport dport N o a) (ApV w N)
    (hide ?_) (hide ?_) (hide ?_) (hide ?_) (hide ?_) (hide ?_) (hide ?_) (hide ?_) (hide ?_) (hide ?_) (hide ?_) (hide ?_) (hide ?_) (hide ?_) (hide ?_) (hide ?_) (hide ?_)
  · intro l va vc wz hbz hl' hh
    refine (at_begun N 9 l va l.length vc w wz hbz (by omega) (by omega) (by omega) (by omega) rfl hh hl'.2.2.1 hl'.2.2.2 (by rw [tE_nd l hl'.1 hl'.2.1 hl'.2.2.1 hl'.2.2.2]; decide)).mono ?_
    rintro e w' ⟨xb, rfl, h1, h2⟩
    exact ⟨xb, rfl, ⟨hl', h1.less (fun _ h => h.elim)⟩, h2⟩
  · rintro l xb wz w1 g cv L ⟨hbk', hA⟩ hb hpk hdg
    obtain ⟨E, hF⟩ := dg_facts src dst id proto sport dport 7 (by omega) tail L hdg f1 f2 f4 f3 f5 f6
    exact ⟨hbk', ⟨E, hF⟩, backM (Cl.new N 9) (tblOf l), good_back _ _ (good_new N 9 (by omega) (by omega) (by omega)) (tblOf_len _) (tbl_bd' _), rfl, rfl, rfl, rfl, rfl, rfl, rfl, Bes.start hA hb hpk⟩
  · rintro l base g cv L xb wz ⟨_, _, S, _, _, _, _, _, _, _, _, hB⟩
    exact hB.pk
  · rintro l base g cv L xb i wz ⟨_, _, _, S, _, hB⟩
    exact hB.pk
  · intro L x base wz hdg hx hv
    obtain ⟨E, hF⟩ := dg_facts src dst id proto sport dport 7 (by omega) tail L hdg f1 f2 f4 f3 f5 f6
    exact packed_pv x base wz (hF.good x.p (List.mem_map_of_mem hx)) hv
  · rintro l base g cv L xb x wz hx ⟨h1, ⟨E, hF⟩, S, h2, h3, h4, h5, h6, h7, h8, h9, hB⟩
    obtain ⟨G, hA, hE, hst⟩ := hB.step
    have hx' := map_get hx
    have hg := hF.good x.p (List.mem_of_getElem? hx')
    obtain ⟨s1, s2, s3, s4⟩ := hF.dat.same x.p (List.mem_of_getElem? hx')
    refine (at_owner xb S G x.p.src x.p.dst x.p.proto x.p.id x.p.off x.p.more x.p.sport x.p.dport x.ao x.p.dlen x.cap w wz hA h2.sml hg.src.1 hg.src.2 hg.dst.1 hg.dst.2 hg.proto.1 hg.proto.2 hg.id.1 hg.id.2 hg.off.1 hg.off.2 hg.sport.1 hg.sport.2 hg.dport.1 hg.dport.2).mono ?_
    rintro e w' ⟨rfl, a1, a2⟩
    refine ⟨?_, h1, ⟨E, hF⟩, S, h2, h3, h4, h5, h6, h7, h8, h9, hst S w' a1 (Kp.below a2)⟩
    rw [h3, ← s1, ← s2, ← s3, ← s4, ← ho]
    rfl
  · rintro l base g cv L xb x wz hx ⟨h1, ⟨E, hF⟩, S, h2, h3, h4, h5, h6, h7, h8, h9, hB⟩
    obtain ⟨G, hA, hE, hst⟩ := hB.step
    have hx' := map_get hx
    have hg := hF.good x.p (List.mem_of_getElem? hx')
    obtain ⟨q1, q2, q3⟩ := hF.first x.p hx'
    obtain ⟨s1, s2, s3, s4⟩ := hF.dat.same x.p (List.mem_of_getElem? hx')
    refine (at_choose xb S G x.p.src x.p.dst x.p.proto x.p.id x.p.off x.p.more x.p.sport x.p.dport x.ao x.p.dlen x.cap w wz hA (by rw [h5]; exact (tbl_full l h1).1) hg.src.1 hg.src.2 hg.dst.1 hg.dst.2 hg.proto.1 hg.proto.2 hg.id.1 hg.id.2 hg.off.1 hg.off.2 hg.sport.1 hg.sport.2 hg.dport.1 hg.dport.2).mono ?_
    rintro e w' ⟨rfl, a1, a2⟩
    refine ⟨?_, h1, ⟨E, hF⟩, S, h2, h3, h4, h5, h6, h7, h8, h9, hst S w' a1 (Kp.below a2)⟩
    rw [q2, q3, ← s1, ← s2, ← s3, h5]
    rfl
  · rintro l base g cv L xb x gb ln cb wz w1 hx ⟨h1, ⟨E, hF⟩, S, h2, h3, h4, h5, h6, h7, h8, h9, hB⟩ hb hrow
    have hx' := map_get hx
    have hpm := List.mem_of_getElem? hx'
    have hg := hF.good x.p hpm
    obtain ⟨o1, o2, o3, o4⟩ := owns_has hrow
    have hlt := hrow.lt gb rfl
    have hB2 := hB.plus hb gb hlt.1 hlt.2
    have hown := owner_of src dst proto id sport dport N o (L.map PV.p) E hF ho S h3 x.p hpm
    refine (bes_arrive w w1 base g cv L xb _ S hB2 h2 a x hg gb ln cb (by omega) (by omega) (by rw [h3]; omega) o2 o3 o4 o1 (.inr rfl)).mono ?_
    rintro e w' ⟨rfl, a1, a2, a3⟩
    have har := arrive_away S a x.p (hF.piece x.p hpm) (by rw [hown]; omega)
    rw [har] at a1 a3
    refine ⟨by rw [h9]; rfl, h1, ⟨E, hF⟩, _, a3, h3, h4, h5, h6, ⟨⟨S.next, a, ownerM S x.p, x.p⟩, ?_, h9⟩, h8, ?_, a1.less (fun k hk => hk.elim)⟩
    · show S.sent ++ _ = _
      rw [h7]
      rfl
    · show S.next + 1 = 1
      omega
  · rintro l base g cv L xb wz ⟨h1, ⟨E, hF⟩, S, h2, h3, h4, h5, h6, ⟨s, h7, h7'⟩, h8, h9, hB⟩
    obtain ⟨G, hA, hE, hst⟩ := hB.step
    refine (at_lose xb 0 S G w wz hA h2 (by rw [h7]; exact Nat.zero_lt_one)).mono ?_
    rintro e w' ⟨rfl, a1, a2⟩
    have hgl := good_lose S 0 h2
    have hls : loseM S 0 = toldM (landM S 0) 0 5 0 := by
      unfold loseM
      rw [h7]
      show toldM (landM S 0) s.seq 5 0 = _
      rw [h7']
    rw [hls] at a1 hgl
    refine ⟨rfl, h1, ⟨E, hF⟩, Nat.zero_le _, toldM (landM S 0) 0 5 0, ⟨hgl, h3, h4, h5, ?_, h9, ?_, ?_⟩, hst _ w' a1 a2⟩
    · show S.sent.take 0 ++ S.sent.drop 1 = []
      rw [h7]
      rfl
    · show S.evs ++ _ = _
      rw [h8]
      rfl
    · exact TI.start (toldM (landM S 0) 0 5 0) h6 _ _ _ _ _
  · rintro l base g cv L xb i x gb ln cb wz w1 hx hpar ⟨h1, ⟨E, hF⟩, h3, S, hS, hB⟩ hb hrow
    have hx' := map_get hx
    have hpm := List.mem_of_getElem? hx'
    have hg := hF.good x.p hpm
    have hil := (List.getElem?_eq_some_iff.1 hx).1
    have hml : (L.map PV.p).length = L.length := List.length_map _
    have h2 := hF.two
    obtain ⟨o1, o2, o3, o4⟩ := owns_has hrow
    have hlt := hrow.lt gb rfl
    have hB2 := hB.plus hb gb hlt.1 hlt.2
    have hown := owner_of src dst proto id sport dport N o (L.map PV.p) E hF ho S hS.reps x.p hpm
    have hnx := hS.next
    refine (bes_arrive w w1 base g cv L xb _ S hB2 hS.good o x hg gb ln cb (by omega) (by omega) (by rw [hS.reps]; omega) o2 o3 o4 o1 (.inr rfl)).mono ?_
    rintro e w' ⟨rfl, a1, a2, a3⟩
    have har := arrive_come S o x.p (hF.piece x.p hpm) hown
    rw [har, hnx] at a1 a3
    obtain ⟨p1, p2, p3, p4, p5, p6, p7⟩ := ap_piece src dst proto id sport dport N o l (L.map PV.p) E i { S with next := i + 1 + 1 } _ x.p hF h1 ho (hS.ti.slots rfl) hS.reps hS.now hS.slots hx' rfl
    refine ⟨by rw [hnx], h1, ⟨E, hF⟩, by omega, _, ⟨a3, p1.trans hS.reps, p2.trans hS.now, p3.trans hS.slots, p4.trans hS.sent, p5, ?_, p7⟩, a1.less (fun k hk => hk.elim)⟩
    rw [p6]
    show S.evs ++ _ = _
    rw [hS.evs]
    rfl
  · rintro l base g cv L xb i x gb ln cb wz w1 hx hpar ⟨h1, ⟨E, hF⟩, h3, S, hS, hB⟩ hb hrow
    have hx' := map_get hx
    have hpm := List.mem_of_getElem? hx'
    have hg := hF.good x.p hpm
    have hil := (List.getElem?_eq_some_iff.1 hx).1
    have hml : (L.map PV.p).length = L.length := List.length_map _
    have h2 := hF.two
    obtain ⟨o1, o2, o3, o4⟩ := owns_has hrow
    have hlt := hrow.lt gb rfl
    have hB2 := hB.plus hb gb hlt.1 hlt.2
    have hown := owner_of src dst proto id sport dport N o (L.map PV.p) E hF ho S hS.reps x.p hpm
    have hnx := hS.next
    refine (bes_arrive w w1 base g cv L xb _ S hB2 hS.good a x hg gb ln cb (by omega) (by omega) (by rw [hS.reps]; omega) o2 o3 o4 o1 (.inr rfl)).mono ?_
    rintro e w' ⟨rfl, a1, a2, a3⟩
    have har := arrive_away S a x.p (hF.piece x.p hpm) (by rw [hown]; omega)
    rw [har] at a1 a3
    refine ⟨by rw [hnx], h1, ⟨E, hF⟩, _, x.p, hx', ⟨a3, hS.reps, hS.now, hS.slots, ?_, ?_, hS.evs, hS.ti.slots rfl⟩, a1.less (fun k hk => hk.elim)⟩
    · show S.sent ++ _ = _
      rw [hS.sent, hown, hnx]
      rfl
    · show S.next + 1 = _
      omega
  · rintro l base g cv L xb i wz ⟨h1, h2, h3, S, hS, hB⟩
    obtain ⟨G, hA, hE, hst⟩ := hB.step
    refine (at_flying xb S G w wz hA (by rw [hS.sent]; simp)).mono ?_
    rintro e w' ⟨v, rfl, a1, a2, a3⟩
    rw [hS.sent] at a1
    have hJ : ApJ w src dst proto id sport dport N o l base g cv L xb i w' := ⟨h1, h2, h3, S, hS, hst S w' a2 (Kp.below a3)⟩
    rcases own_shaped a1 with ⟨rfl, _⟩ | ⟨gf, cf, rfl⟩
    · exact ⟨none, 0, rfl, hJ⟩
    · exact ⟨_, cf, rfl, hJ⟩
  · rintro l base g cv L xb i wz ⟨h1, h2, S, p, hp, hS, hB⟩
    obtain ⟨G, hA, hE, hst⟩ := hB.step
    refine (at_flying xb S G w wz hA (by rw [hS.sent]; simp)).mono ?_
    rintro e w' ⟨v, rfl, a1, a2, a3⟩
    rw [hS.sent] at a1
    have a1' : w'.ownsRow wz.heap.size 57 3 v 1 [.int .i64 (i + 1 : Nat), .int .i64 a, .int .i64 o] := a1
    rcases own_shaped a1' with ⟨_, hx⟩ | ⟨gf, cf, rfl⟩
    · cases hx
    · exact ⟨gf, cf, rfl, (a1'.lt gf rfl).2, a1'.cellAt 0 (by decide), a1'.cellAt 1 (by decide), a1'.cellAt 2 (by decide), h1, h2, S, p, hp, hS, hst S w' a2 (Kp.below a3)⟩
  · rintro l base g cv L xb i wz w' ⟨h1, h2, S, p, hp, hS, hB⟩ hb
    exact ⟨h1, h2, S, p, hp, hS, hB.below hb⟩
  · rintro l base g cv L xb i wz hil ⟨h1, ⟨E, hF⟩, S, p, hp, hS, hB⟩
    obtain ⟨G, hA, hE, hst⟩ := hB.step
    refine (at_deliver xb 0 S G w wz hA hS.good (by rw [hS.sent]; exact Nat.zero_lt_one)).mono ?_
    rintro e w' ⟨rfl, a1, a2⟩
    have hgd := good_deliver S 0 hS.good
    have hdl : deliverM S 0 = pieceM (landM S 0) (i + 1) p := by
      unfold deliverM
      rw [hS.sent]
      rfl
    rw [hdl] at a1 hgd
    have hls : (landM S 0).sent = [] := by
      show S.sent.take 0 ++ S.sent.drop 1 = []
      rw [hS.sent]
      rfl
    obtain ⟨p1, p2, p3, p4, p5, p6, p7⟩ := ap_piece src dst proto id sport dport N o l (L.map PV.p) E i (landM S 0) _ p hF h1 ho (hS.ti.slots rfl) hS.reps hS.now hS.slots hp rfl
    refine ⟨rfl, h1, ⟨E, hF⟩, by omega, _, ⟨hgd, p1.trans hS.reps, p2.trans hS.now, p3.trans hS.slots, p4.trans hls, p5.trans hS.next, ?_, p7⟩, hst _ w' a1 a2⟩
    rw [p6]
    show S.evs ++ _ = _
    rw [hS.evs]
    rfl
  · rintro l base g cv L xb wz ⟨h1, ⟨E, hF⟩, h3, S, hS, hB⟩
    have hml : (L.map PV.p).length = L.length := List.length_map _
    obtain ⟨G, hA, hE, hst⟩ := hB.step
    refine (at_take xb S G w wz hA).mono ?_
    rintro e w' ⟨v, rfl, a1, a2, a3, a4⟩
    have hlen : S.evs.length = L.length + 1 := by rw [hS.evs, evA_len]
    rw [hlen] at a3
    rcases own_shaped a3 with ⟨_, hx⟩ | ⟨ge, ce, rfl⟩
    · omega
    have hget : ∀ q v, S.evs[q]? = some v → w'.cell? ⟨ge, q * 3, none⟩ = some (.int .i64 v.seq) ∧ w'.cell? ⟨ge, q * 3 + 1, none⟩ = some (.int .u8 v.fate) ∧ w'.cell? ⟨ge, q * 3 + 2, none⟩ = some (.int .u8 v.whr) := fun q v hq =>
      ⟨row_get Ev.cells Ev.len a3 q v hq 0 _ rfl, row_get Ev.cells Ev.len a3 q v hq 1 _ rfl, row_get Ev.cells Ev.len a3 q v hq 2 _ rfl⟩
    have hen : S.ents = [] := by
      rw [hS.ti.ents]
      refine if_pos (.inr ?_)
      rw [← hml]
      exact List.drop_length
    refine ⟨ge, ce, rfl, (a3.lt ge rfl).2, ?_, fun q hq => ?_, ⟨takeM S, _, good_take S hS.good, hS.reps, hen, a1⟩, a1.bel⟩
    · have := hget 0 _ (by rw [hS.evs]; exact evA_zero _ _)
      simpa using this
    · exact hget (q + 1) _ (by rw [hS.evs]; exact evA_get _ _ _ hq)
  · rintro xb wz ⟨S, G, h1, h2, h3, hA⟩
    obtain ⟨e1, e2, e3⟩ := held_nil S h3 (o : Int)
    refine (at_held xb o S G w wz hA h1.sml (by rw [h2]; omega)).mono ?_
    rintro e w' ⟨rfl, a1, a2⟩
    exact ⟨by rw [e1, e2, e3]; rfl, a2⟩

end Go.Proofs.Ytajphdppmdoalab

namespace Go.Proofs.Ytajphdppmdoalab
open Go.ChangeShapes Go.WideShapes Go.ChangeAt Go.RowKit Go.Deep
set_option linter.unusedVariables false

theorem own3 : ownKnob Try.prog.godebug = none := by kernel_rfl
theorem laidOut3 : laidOutB Try.prog = true := by kernel_rfl
theorem cellsInt : Try.prog.cellsOf 3 = 1 := by kernel_rfl
theorem cellsFlow3 : Try.prog.cellsOf 24 = 6 := by kernel_rfl
theorem array6' {α : Type} {cs : Array α} (h : cs.size = 6) : ∃ c0 c1 c2 c3 c4 c5, cs = #[c0, c1, c2, c3, c4, c5] := by
  obtain ⟨l⟩ := cs
  match l, h with
  | [c0, c1, c2, c3, c4, c5], _ => exact ⟨c0, c1, c2, c3, c4, c5, rfl⟩

set_option maxRecDepth 100000 in
/-- A flow that came in. -/
theorem open_flow3 {H : Type} {enc : TypeId × Value → H} {w : World} {base b0 : Nat} {spare : Nat → Bool} {held : Bool} {r : Reach} {v : Value} {d : DataW H} {p : List MemPlace}
    (hv : Value.okWide Try.prog w r b0 24 v) (h : DataW.Trod enc Try.prog w base spare held 24 v d p) :
    ∃ src dst id proto sport dport : Int, v = .agg #[.int .u16 src, .int .u16 dst, .int .u16 id, .int .u8 proto, .int .u16 sport, .int .u16 dport] ∧ (Lit.int .u16 src).wf = true ∧ (Lit.int .u16 dst).wf = true ∧ (Lit.int .u16 id).wf = true ∧ (Lit.int .u8 proto).wf = true ∧ (Lit.int .u16 sport).wf = true ∧ (Lit.int .u16 dport).wf = true := by
  obtain ⟨cs, rfl, hsz⟩ := okWide_struct Try.underlying24 hv
  obtain ⟨c0, c1, c2, c3, c4, c5, rfl⟩ := array6' (hsz.trans cellsFlow3)
  obtain ⟨fuel, hf⟩ := h
  obtain ⟨xs, n, _, hx, hl, hlen, hg⟩ := DataW.trod_struct Try.underlying24 hf
  match xs, hlen with
  | [y0, y1, y2, y3, y4, y5], _ =>
    have g0 : DataW.trod enc Try.prog w base spare held n 22 [c0] = some y0 := hg 0 _ rfl
    have g1 : DataW.trod enc Try.prog w base spare held n 22 [c1] = some y1 := hg 1 _ rfl
    have g2 : DataW.trod enc Try.prog w base spare held n 22 [c2] = some y2 := hg 2 _ rfl
    have g3 : DataW.trod enc Try.prog w base spare held n 5 [c3] = some y3 := hg 3 _ rfl
    have g4 : DataW.trod enc Try.prog w base spare held n 22 [c4] = some y4 := hg 4 _ rfl
    have g5 : DataW.trod enc Try.prog w base spare held n 22 [c5] = some y5 := hg 5 _ rfl
    obtain ⟨a0, e0, _, w0⟩ := DataW.trod_int Try.underlying22 g0
    obtain ⟨a1, e1, _, w1⟩ := DataW.trod_int Try.underlying22 g1
    obtain ⟨a2, e2, _, w2⟩ := DataW.trod_int Try.underlying22 g2
    obtain ⟨a3, e3, _, w3⟩ := DataW.trod_int Try.underlying5 g3
    obtain ⟨a4, e4, _, w4⟩ := DataW.trod_int Try.underlying22 g4
    obtain ⟨a5, e5, _, w5⟩ := DataW.trod_int Try.underlying22 g5
    simp at e0 e1 e2 e3 e4 e5
    subst e0 e1 e2 e3 e4 e5
    exact ⟨a0, a1, a2, a3, a4, a5, rfl, w0, w1, w2, w3, w4, w5⟩

/-- A list of ints that came in. -/
theorem open_list {H : Type} {enc : TypeId × Value → H} {w : World} {ao : Option Addr} {n cap : Nat} {d : DataW H} {ps : List MemPlace}
    (h : DataW.Trod enc Try.prog w 0 (fun _ => true) true 25 (.slice ao n cap) d ps) :
    ∃ zs : List Int, zs.length = n ∧ HasZ w ao zs ∧ (∀ z ∈ zs, -9223372036854775808 ≤ z ∧ z ≤ 9223372036854775807) ∧ n ≤ 9223372036854775807 := by
  obtain ⟨fuel, hf⟩ := h
  have hf' : DataW.trod enc Try.prog w 0 (fun _ => true) true fuel 25 [.slice ao n cap] = some (d, ps) := by simpa [Value.cells] using hf
  rcases open_ints Try.underlying25 Try.underlying3 cellsInt hf' with ⟨hcs, _⟩ | ⟨a, len, cap', zs, hcs, _, hl, hm, hz, hx, hcell, hwz⟩
  · simp at hcs
    obtain ⟨rfl, rfl, rfl⟩ := hcs
    exact ⟨[], rfl, ⟨fun _ => rfl, fun h => absurd rfl h⟩, by simp, by decide⟩
  · simp at hcs
    obtain ⟨rfl, rfl, rfl⟩ := hcs
    have hz' : zs.length = cap := by simpa using hz
    refine ⟨zs.take n, by simp; omega, ⟨by simp, ?_⟩, ?_, ?_⟩
    · intro hne
      have hp : 0 < zs.length := by cases zs with | nil => simp at hne | cons _ _ => simp
      obtain ⟨b, o, rfl, hc⟩ := ints_at hcell hp
      refine ⟨b, o, rfl, World.block_lt_of_cell? w _ (by simpa using hc 0 hp), fun j hj => ?_⟩
      rw [List.length_take] at hj
      rw [hc j (by omega), List.getD_eq_getElem?_getD, List.getD_eq_getElem?_getD, List.getElem?_take_of_lt (by omega)]
    · intro z hzz
      exact bounds_i64 (hwz z (List.mem_of_mem_take hzz))
    · unfold maxLen at hm
      omega

end Go.Proofs.Ytajphdppmdoalab

namespace Go.Proofs.Ytajphdppmdoalab
open Go.ChangeShapes Go.WideShapes Go.ChangeAt Go.RowKit Go.Deep
set_option linter.unusedVariables false

set_option maxRecDepth 100000 in
theorem apart_lifted (os : Os) (started : os.Started) (H : Type) (enc : TypeId × Value → H) :
    ReturnsInHanded {} Try.checked os 4 .any (Rows.apartSpec.pre6 enc Try.prog Try.f4 Rows.apartRow.domain false) (Rows.apartSpec.post enc Try.prog Try.f4 false true false false) := by
  refine returnsInHanded_of_change (C := Try.checked) own3 started (by kernel_rfl) Try.func4
    (ChangeSpec.witness6 (enc := enc) (C := Try.checked) false ⟨#[], #[.agg #[.int .u16 0, .int .u16 0, .int .u16 0, .int .u8 0, .int .u16 0, .int .u16 0], .slice none 0 0, .int .i64 0, .int .i64 0, .int .i64 0], []⟩ 8 (by kernel_rfl) (by kernel_rfl) (by kernel_rfl) (by kernel_rfl)) ?_
  intro W base args ds gs before hval0 hW hcnd _
  have hval : ∀ (j : Nat) t v, Try.f4.params[j]? = some t → args[j]? = some v → Value.okWide Try.prog W .any base t v := hval0
  have hW' := hW
  obtain ⟨p, q, hA0, hV, rfl, hfz, hnd⟩ := hW
  have hA : DataW.TrodAll enc Try.prog W 0 (fun _ => true) true Try.f4.params.toList args.toList ds p := hA0
  rw [Try.params4] at hA hval
  obtain ⟨v0, vs0, d0, ds0, p0, q0, hargs, rfl, rfl, h0, r0⟩ := trodAll_cons hA
  obtain ⟨v1, vs1, d1, ds1, p1, q1, rfl, rfl, rfl, h1, r1⟩ := trodAll_cons r0
  obtain ⟨v2, vs2, d2, ds2, p2, q2, rfl, rfl, rfl, h2, r2⟩ := trodAll_cons r1
  obtain ⟨v3, vs3, d3, ds3, p3, q3, rfl, rfl, rfl, h3, r3⟩ := trodAll_cons r2
  obtain ⟨v4, vs4, d4, ds4, p4, q4, rfl, rfl, rfl, h4, r4⟩ := trodAll_cons r3
  obtain ⟨rfl, rfl, rfl⟩ := trodAll_nil r4
  obtain rfl : args = #[v0, v1, v2, v3, v4] := by cases args; simp_all
  obtain ⟨rfl, rfl⟩ := trodVars_none hV
  have k0 := h0
  have lt0 : ∀ x ∈ p0, x.block < W.heap.size := by obtain ⟨m, hm⟩ := k0; exact DataW.trod_lt m _ _ _ hm
  have k1 := h1
  have lt1 : ∀ x ∈ p1, x.block < W.heap.size := by obtain ⟨m, hm⟩ := k1; exact DataW.trod_lt m _ _ _ hm
  obtain ⟨src, dst, id, proto, sport, dport, rfl, z0, z1, z2, z3, z4, z5⟩ := open_flow3 (hval 0 24 v0 rfl rfl) h0
  obtain ⟨a1, len1, cap1, rfl⟩ := okWide_slice Try.underlying25 (hval 1 25 v1 rfl rfl)
  obtain ⟨zs, hzl, hzh, hzb, hzn⟩ := open_list h1
  obtain ⟨a2, rfl, rfl, rfl, w2⟩ := open_int Try.underlying3 (hval 2 3 v2 rfl rfl) h2
  obtain ⟨a3, rfl, rfl, rfl, w3⟩ := open_int Try.underlying3 (hval 3 3 v3 rfl rfl) h3
  obtain ⟨a4, rfl, rfl, rfl, w4⟩ := open_int Try.underlying3 (hval 4 3 v4 rfl rfl) h4
  clear hA0 hval0
  refine (apart_any src dst id proto sport dport a2 a3 a4 zs len1 cap1 a1 W ⟨bounds_u16 z0, bounds_u16 z1, bounds_u16 z2, bounds_u8 z3, bounds_u16 z4, bounds_u16 z5⟩ hzl hzb hzh hzn (bounds_i64 w2) (bounds_i64 w4) (bounds_i64 w3)).mono fun e W' ⟨he, bel⟩ => ?_
  subst he
  exact ⟨_, rfl, _, _, _, [], _, [], hW', trodAll_mk1 (shut_bool Try.underlying4 _), (trodAll_cons_mk (Below.trod laidOut3 (by kernel_rfl) (of_decide_eq_true (by kernel_rfl)) k0 bel lt0) (trodAll_cons_mk (Below.trod laidOut3 (by kernel_rfl) (of_decide_eq_true (by kernel_rfl)) k1 bel lt1) (trodAll_cons_mk (shut_int Try.underlying3 w2) (trodAll_cons_mk (shut_int Try.underlying3 w3) (trodAll_cons_mk (shut_int Try.underlying3 w4) trodAll_mk0))))), rfl, bel.frame _, fun h => by cases h⟩

theorem apart_holds : Rows.ApartSaid :=
  OpenClaim.holds_of_wide 4 Try.f4 rfl rfl rfl rfl rfl rfl rfl ⟨rfl, rfl, rfl, rfl, rfl⟩ rfl rfl rfl rfl rfl (by kernel_rfl) Try.func4 (by kernel_rfl)
    (of_decide_eq_true (by kernel_rfl)) (by unfold Func.isWrapper; first | (rw [if_pos (by decide +kernel)]; kernel_rfl) | (rw [if_neg (by decide +kernel)]; exact ⟨rfl, rfl⟩))
    (fun os started H enc _ => apart_lifted os started H enc)

end Go.Proofs.Ytajphdppmdoalab

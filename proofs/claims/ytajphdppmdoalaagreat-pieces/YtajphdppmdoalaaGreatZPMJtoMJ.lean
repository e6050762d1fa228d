import Derived.Test.YtajphdppmdoalaaGreatZPMLtoR0
import Derived.Deep.DeepCutAuto
import Derived.Deep.AppendLies
import Derived.Deep.RegionLaw
namespace Go.Proofs.YtajphdppmdoalaaGreat
open Go.RowKit
set_option linter.unusedVariables false

/-- The place of a packet's entry, as ferryref has it. -/
def atI (l : List Ent) (p : Pk) : Int := match atM l p with | none => -1 | some k => k
def lkAt (l : List Ent) (p : Pk) (i : Nat) : Bool := match l[i]? with | some e => likeM e p | none => false
theorem atM_snoc (l : List Ent) (e : Ent) (p : Pk) : atM (l ++ [e]) p = if likeM e p then some l.length else atM l p := by
  show ((List.range (l ++ [e]).length).filter (lkAt (l ++ [e]) p)).getLast? = if likeM e p then some l.length else ((List.range l.length).filter (lkAt l p)).getLast?
  have h1 : (l ++ [e]).length = l.length + 1 := by simp
  have h2 : (List.range l.length).filter (lkAt (l ++ [e]) p) = (List.range l.length).filter (lkAt l p) := by
    apply List.filter_congr
    intro i hi
    rw [List.mem_range] at hi
    unfold lkAt
    rw [List.getElem?_append_left hi]
  have h3 : lkAt (l ++ [e]) p l.length = likeM e p := by
    unfold lkAt
    rw [List.getElem?_append_right (Nat.le_refl _)]
    simp
  rw [h1, List.range_succ, List.filter_append, h2]
  cases hk : likeM e p with
  | true => simp [h3, hk]
  | false => simp [h3, hk]
theorem atI_snoc (l : List Ent) (e : Ent) (p : Pk) : atI (l ++ [e]) p = if likeM e p then (l.length : Int) else atI l p := by
  unfold atI
  rw [atM_snoc]
  cases likeM e p <;> rfl
theorem atI_bd (l : List Ent) (p : Pk) : -1 ≤ atI l p ∧ atI l p < l.length := by
  unfold atI
  cases h : atM l p with
  | none => simp; omega
  | some k =>
    obtain ⟨e, he, _⟩ := atM_some l p k h
    have := (List.getElem?_eq_some_iff.1 he).1
    simp only
    omega
theorem few_snoc {α : Type} (l : List α) (j : Nat) (h : j ≤ l.length) : (l.take j).length = j := by rw [List.length_take]; omega
/-- A new entry for a packet. -/
def newE (S : Cl) (p : Pk) : Ent := ⟨ownerM S p, p.src, p.dst, p.proto, p.id, S.now, [], false, 0⟩
theorem piece_no (S : Cl) (seq : Nat) (p : Pk) (f : Int) (hf : refusedM S ((atM S.ents p).bind (S.ents[·]?)) p (pcM seq p) = f) (h : f ≠ 0) : pieceM S seq p = toldM S seq f 0 := by
  unfold pieceM
  simp only
  rw [hf, if_pos h]
theorem piece_new (S : Cl) (seq : Nat) (p : Pk) (ha : atM S.ents p = none) (hf : refusedM S none p (pcM seq p) = 0) : pieceM S seq p = { S with evs := S.evs ++ (takenM S (newE S p) p (pcM seq p)).2, ents := if wholeM (takenM S (newE S p) p (pcM seq p)).1 then goneM (S.ents ++ [newE S p]) S.ents.length else (S.ents ++ [newE S p]).set S.ents.length (takenM S (newE S p) p (pcM seq p)).1 } := by
  unfold pieceM
  simp only
  rw [ha]
  simp only [Option.bind_none, hf, Option.getD_none]
  have hl : (S.ents ++ [newE S p])[S.ents.length]? = some (newE S p) := by rw [List.getElem?_append_right (Nat.le_refl _)]; simp
  rw [if_neg (by simp)]
  show (match (S.ents ++ [newE S p])[S.ents.length]? with | none => S | some e => _) = _
  rw [hl]
  rfl
theorem piece_old (S : Cl) (seq : Nat) (p : Pk) (k : Nat) (e : Ent) (ha : atM S.ents p = some k) (he : S.ents[k]? = some e) (hf : refusedM S (some e) p (pcM seq p) = 0) : pieceM S seq p = { S with evs := S.evs ++ (takenM S e p (pcM seq p)).2, ents := if wholeM (takenM S e p (pcM seq p)).1 then goneM S.ents k else S.ents.set k (takenM S e p (pcM seq p)).1 } := by
  unfold pieceM
  simp only
  rw [ha]
  simp only [Option.bind_some, he, hf, Option.getD_some]
  rw [if_neg (by simp)]

theorem piece_yes (S : Cl) (seq : Nat) (p : Pk) (hf : refusedM S ((atM S.ents p).bind (S.ents[·]?)) p (pcM seq p) = 0) : ∃ (L : List Ent) (K : Nat) (E1 : Ent), L[K]? = some E1 ∧ pieceM S seq p = { S with evs := S.evs ++ (takenM S E1 p (pcM seq p)).2, ents := if wholeM (takenM S E1 p (pcM seq p)).1 then goneM L K else L.set K (takenM S E1 p (pcM seq p)).1 } ∧
    ((atM S.ents p = none ∧ L = S.ents ++ [newE S p] ∧ K = S.ents.length ∧ E1 = newE S p) ∨ (atM S.ents p = some K ∧ L = S.ents)) := by
  cases ha : atM S.ents p with
  | none =>
    rw [ha] at hf
    exact ⟨_, _, _, by rw [List.getElem?_append_right (Nat.le_refl _)]; simp, piece_new S seq p ha hf, .inl ⟨rfl, rfl, rfl, rfl⟩⟩
  | some k =>
    obtain ⟨e, he, _⟩ := atM_some S.ents p k ha
    rw [ha] at hf
    simp only [Option.bind_some, he] at hf
    exact ⟨S.ents, k, e, he, piece_old S seq p k e ha he hf, .inr ⟨rfl, rfl⟩⟩
theorem rrefused_at (yb : Nat) (S : Cl) (F : Nat → Prop) (vS vE vN vV : Value) (ES : List RE) (NS : List RN) (seq : Nat) (p : Pk) (ao : Option Addr) (cap : Nat) (w : World) (h : RefIs w yb S F vS vE vN vV ES NS) (hs : Sml S) (hp : PkB p) :
    Calls Tryz.prog 96 #[.pointer (some ⟨yb, 0, none⟩), .int .i64 (atI S.ents p), .agg #[.int .u16 p.src, .int .u16 p.dst, .int .u8 p.proto, .int .u16 p.id, .int .u8 p.off, .bool p.more, .int .u16 p.sport, .int .u16 p.dport, .slice ao p.dlen cap], .agg #[.int .i64 seq, .int .i64 (4 * p.off), .int .i64 (4 * p.off + p.dlen), .bool (!p.more), .bool false]] w fun e w' => e = .returned (.int .u8 (refusedM S ((atM S.ents p).bind (S.ents[·]?)) p (pcM seq p))) ∧ Below w.heap.size w w' := by
  have hn : 0 ≤ (pcM seq p).a ∧ (pcM seq p).a ≤ 60 ∧ (pcM seq p).a ≤ (pcM seq p).b ∧ (pcM seq p).b ≤ 92 := by
    have := hp.off
    have := hp.dlen
    unfold pcM
    simp only
    omega
  cases ha : atM S.ents p with
  | none =>
    have h1 : atI S.ents p = -1 := by unfold atI; rw [ha]
    rw [h1]
    exact rrefused_none yb S F vS vE vN vV ES NS p ao cap (pcM seq p) w h hs hp hn
  | some k =>
    have h1 : atI S.ents p = k := by unfold atI; rw [ha]
    rw [h1]
    obtain ⟨e, he, _⟩ := atM_some S.ents p k ha
    have hk : ∃ r, ES[k]? = some r ∧ r.e = e := by
      rw [← h.hes, List.getElem?_map] at he
      cases hr : ES[k]? with
      | none => rw [hr] at he; simp at he
      | some r => rw [hr] at he; exact ⟨r, rfl, by simpa using he⟩
    obtain ⟨r, hr, hre⟩ := hk
    have := rrefused_some yb S F vS vE vN vV ES NS p ao cap (pcM seq p) w h hs hp hn k r hr
    rw [hre] at this
    rw [Option.bind_some, he]
    exact this

theorem ref_grow {wx wb wy : World} {yb : Nat} {S : Cl} {F : Nat → Prop} {vS vE vN vV : Value} {ES : List RE} {NS : List RN} (h : RefIs wx yb S F vS vE vN vV ES NS) (hb : Below wx.heap.size wx wb) (r : RE) (hr1 : r.pv = .slice none 0 0) (hr2 : r.e.pcs = []) (hr3 : ∃ ao n cap, r.dv = .slice ao n cap) {g2 c2 : Nat}
    (hown : wy.ownsRow 0 128 14 (.slice (some ⟨g2, 0, none⟩) (ES.length + 1) c2) (ES.length + 1) (ES.flatMap RE.cells ++ RE.cells r)) (hgrow : wb.grownBy wy vE.ownBlock) (hwh : vE.ownBlock = some g2 ∨ g2 = wb.heap.size) :
    ∃ F1, RefIs (wy.setCell ⟨yb, 5, none⟩ (.slice (some ⟨g2, 0, none⟩) (ES.length + 1) c2)) yb { S with ents := S.ents ++ [r.e] } F1 vS (.slice (some ⟨g2, 0, none⟩) (ES.length + 1) c2) vN vV (ES ++ [r]) NS ∧ Stp wx (wy.setCell ⟨yb, 5, none⟩ (.slice (some ⟨g2, 0, none⟩) (ES.length + 1) c2)) F F1 := by
  have hv' : ES.flatMap RE.cells ++ RE.cells r = (ES ++ [r]).flatMap RE.cells := by simp
  rw [hv'] at hown
  have ho : Only (fun k => vE.ownBlock = some k) wx wy := ((Only.refl _ _).below hb).grown hgrow (fun k _ hk => hk)
  have hE := h.setE ho (ES ++ [r]) _ (by rw [List.length_append]; exact hown)
    (fun x hx => by rw [List.mem_append, List.mem_singleton] at hx; rcases hx with hx | rfl; exact h.raw x hx; exact hr3)
    (fun x hx => by rw [List.mem_append, List.mem_singleton] at hx; rcases hx with hx | rfl; exact .inl hx; exact .inr (by rw [hr1, hr2]; exact World.ownsRow_nil _ _ _ _))
    (fun x hx q hq => by rw [List.mem_append, List.mem_singleton] at hx; rcases hx with hx | rfl; exact .inl (h.fP x hx q hq); rw [hr1] at hq; simp [Value.ownBlock] at hq)
    (fun q hq => by
      simp only [Value.ownBlock, Option.some.injEq] at hq
      subst hq
      rcases hwh with h1 | h1
      · exact .inl h1
      · exact .inr (by have := hb.size; omega))
  rw [List.map_append, h.hes] at hE
  exact ⟨_, hE.1, hE.2⟩
theorem ref_slots (S : Cl) (e : Option Ent) (p : Pk) (n : Pc) (h : refusedM S e p n = 0) (ha : n.a = 0) : S.slots ≠ [] := by
  intro hs
  unfold refusedM at h
  rw [if_pos ⟨ha, hs⟩] at h
  omega
def fgt (κ : Bool) (q : Pc) : Pc := if κ then { q with waits := false } else q
def evT (seq : Nat) (tv : Int) (l : List Pc) : List Ev := ⟨seq, 0, tv⟩ :: (wL l).map (fun q => ⟨q.seq, 0, tv⟩)
theorem taken_is (S : Cl) (e : Ent) (p : Pk) (seq : Nat) (κ : Bool) (tv : Int) (h1 : κ = (e.known || decide (4 * p.off = 0))) (h2 : tv = if 4 * p.off = 0 then chosenM S p else e.to) : takenM S e p (pcM seq p) = ({ e with known := κ, «to» := tv, pcs := e.pcs.map (fgt κ) ++ [{ pcM seq p with waits := !κ }] }, if κ then evT seq tv e.pcs else []) := by
  subst h1 h2
  rfl
theorem Stp.more {a b c : World} {F F' G : Nat → Prop} (h : Stp a b F F') (ho : Only G b c) (hG : ∀ k, G k → a.heap.size ≤ k) : Stp a c F F' :=
  ⟨h.only.trans ho (fun i hi hg => by have := hG i hg; omega), h.own⟩
theorem evs_le (S : Cl) : S.evs.length ≤ (seqsM S).length := by unfold seqsM; simp only [List.length_append, List.length_map]; omega
theorem wL_le (l : List Pc) (j : Nat) : (wL (l.take j)).length ≤ l.length := Nat.le_trans (List.length_filter_le _ _) (by rw [List.length_take]; omega)
theorem fewE (S : Cl) (hs : Sml S) (L : List Ent) (K : Nat) (E1 : Ent) (p : Pk) (h : L[K]? = some E1) (hc : (atM S.ents p = none ∧ L = S.ents ++ [newE S p] ∧ K = S.ents.length ∧ E1 = newE S p) ∨ (atM S.ents p = some K ∧ L = S.ents)) : E1.pcs.length ≤ 92 ∧ ∀ q ∈ E1.pcs, 0 ≤ q.a ∧ q.a ≤ q.b ∧ q.b ≤ 92 := by
  rcases hc with ⟨_, _, _, rfl⟩ | ⟨_, rfl⟩
  · exact ⟨by simp [newE], by simp [newE]⟩
  · have hm := List.mem_of_getElem? h
    exact ⟨pcs_few E1 (hs.cok.ents E1 hm).1 (hs.ents E1 hm).pcs, fun q hq => by have h1 := (hs.cok.ents E1 hm).1.pos q hq; have h2 := (hs.ents E1 hm).pcs q hq; omega⟩
theorem Pc.one (q : Pc) : ∀ u ∈ q.cells, u.oneCell' = true := by
  intro u hu
  simp only [Pc.cells, List.mem_cons, List.not_mem_nil, or_false] at hu
  rcases hu with rfl | rfl | rfl | rfl | rfl <;> rfl
theorem Tryz.infoPi : (Tryz.prog.info? 130).map (fun i => (i.zero, i.size, i.bytes)) = some (some (.agg #[.int .i64 0, .int .i64 0, .int .i64 0, .bool false, .bool false]), 5, 32) := by kernel_rfl
/-- A row of the call's own beside a cluster. -/
structure Own1 (w : World) (B : Nat) (F : Nat → Prop) (l : Value) (n : Nat) (qs : List Pc) : Prop where
  row : w.ownsRow 0 130 5 l n (qs.flatMap Pc.cells)
  far : ∀ g, l.ownBlock = some g → B ≤ g ∧ ¬ F g
theorem Own1.only {w w' : World} {B n : Nat} {F F' G : Nat → Prop} {l : Value} {qs : List Pc} (h : Own1 w B F l n qs) (ho : Only G w w') (hG : ∀ g, l.ownBlock = some g → ¬ G g) (hF : ∀ k, k < w.heap.size → F' k → F k) : Own1 w' B F' l n qs :=
  ⟨own_only h.row ho hG, fun g hg => ⟨(h.far g hg).1, fun hf => (h.far g hg).2 (hF g (h.row.lt g hg).2 hf)⟩⟩
set_option maxRecDepth 100000 in
set_option maxHeartbeats 6400000 in
theorem rpiece_any (yb : Nat) (S : Cl) (F : Nat → Prop) (vS vE vN vV : Value) (ES : List RE) (NS : List RN) (seq : Nat) (p : Pk) (ao : Option Addr) (cap : Nat) (w : World) (h : RefIs w yb S F vS vE vN vV ES NS) (hs : Sml S) (hc : (seqsM S).length ≤ 1900000000000) (hp : PkB p) (hok : PkOK p) (hseq : seq ≤ 2000000000000) :
    Calls Tryz.prog 77 #[.pointer (some ⟨yb, 0, none⟩), .int .i64 seq, .agg #[.int .u16 p.src, .int .u16 p.dst, .int .u8 p.proto, .int .u16 p.id, .int .u8 p.off, .bool p.more, .int .u16 p.sport, .int .u16 p.dport, .slice ao p.dlen cap]] w fun e w' => e = .returned (.tuple #[]) ∧ ∃ F' vE' vV' ES', RefIs w' yb (pieceM S seq p) F' vS vE' vN vV' ES' NS ∧ Stp w w' F F' := by
  obtain ⟨S', hS'⟩ : ∃ S', S' = pieceM S seq p := ⟨_, rfl⟩
  rw [← hS']
  have HS' := hide hS'
  have HH := hide h
  have HS := hide hs
  have hyb := h.lt
  have hR := And.intro hs.cok.reps hs.reps
  have hl : S.ents.length = ES.length := by rw [← h.hes, List.length_map]
  have hfew := (few_of_sml S hs).1
  have HES := hide h.hes
  obtain ⟨ea, ec, hvE⟩ := own_slice h.rE
  clear h hS'
  go_enter Tryz.func77, Tryz.ntmps77
  go_wp2_with fail
  generalize hWW : w.alloc _ = w1
  have hz1 : w1.heap.size = w.heap.size + 1 := by rw [← hWW]; simp
  have HB1 : Hid (Below w.heap.size w w1) := by rw [← hWW]; exact (Below.refl _ _).alloc (Nat.le_refl _) _
  have HP1 : Hid (w1.heap[w.heap.size]? = some (.cells #[.int .u16 p.src, .int .u16 p.dst, .int .u8 p.proto, .int .u16 p.id, .int .u8 p.off, .bool p.more, .int .u16 p.sport, .int .u16 p.dport, .slice ao p.dlen cap] 40 (0, 0))) := by rw [← hWW]; exact heap_alloc_new _ _
  clear hWW
  have dP := arr_cell HP1.out
  have cR : w1.cell? ⟨yb, 0, none⟩ = some (.int .i64 S.reps) := arr_cell (HH.out.below HB1.out).blk 0
  go_wp2_with fail
  refine (rowner_any yb p.src p.dst p.proto p.id p.off p.more p.sport p.dport ao p.dlen cap S.reps w1 hp.src hp.dst hp.proto hp.id hp.sport hp.dport hR cR (by omega)).mono ?_
  rintro e w2 ⟨rfl, hb2⟩
  have ho : dgH p.src p.dst p.proto p.id % S.reps = ownerM S p := rfl
  rw [ho]
  have HB2 : Hid (Below w.heap.size w w2) := HB1.out.trans (hb2.mono (by omega))
  have hz2 : w.heap.size + 1 ≤ w2.heap.size := by have := hb2.size; omega
  have HP2 : Hid (w2.heap[w.heap.size]? = some (.cells #[.int .u16 p.src, .int .u16 p.dst, .int .u8 p.proto, .int .u16 p.id, .int .u8 p.off, .bool p.more, .int .u16 p.sport, .int .u16 p.dport, .slice ao p.dlen cap] 40 (0, 0))) := (hb2.block _ (by omega)).trans HP1.out
  clear ho hb2 cR dP HP1 HB1
  go_wp2_with fail
  go_loopw [8, 7] (fun i a wr => ∃ j : Nat, j ≤ ES.length ∧ i = .int .i64 j ∧ a = .int .i64 (atI (S.ents.take j) p) ∧ Hid (Below w2.heap.size w2 wr)) (fun i _ _ => ES.length - (intOf i).toNat)
  case atStart => exact ⟨0, Nat.zero_le _, rfl, rfl, Below.refl _ _⟩
  case round =>
    obtain ⟨j, hj, rfl, rfl, HBr⟩ := hrel
    have HBW : Hid (Below w.heap.size w wr) := HB2.out.trans (HBr.out.mono (by omega))
    have HR := hide (HH.out.below HBW.out)
    have HPr : Hid (wr.heap[w.heap.size]? = some (.cells #[.int .u16 p.src, .int .u16 p.dst, .int .u8 p.proto, .int .u16 p.id, .int .u8 p.off, .bool p.more, .int .u16 p.sport, .int .u16 p.dport, .slice ao p.dlen cap] 40 (0, 0))) := (HBr.out.block _ (by omega)).trans HP2.out
    have dP := arr_cell HPr.out
    have hz3 : w.heap.size < wr.heap.size := lt_of_block HPr.out
    have hyr : yb < wr.heap.size := by omega
    have cE : wr.cell? ⟨yb, 5, none⟩ = some (.slice ea ES.length ec) := by rw [← hvE]; exact arr_cell HR.out.blk 5
    have hat := atI_bd (S.ents.take j) p
    by_cases hlt : j < ES.length
    · obtain ⟨g, q, hgq⟩ := own_some HH.out.rE (by omega)
      rw [hvE, Value.slice.injEq] at hgq
      obtain ⟨rfl, _, rfl⟩ := hgq
      have hN := HR.out.rE
      rw [hvE] at hN
      have hgr : g < wr.heap.size := (hN.lt g rfl).2
      obtain ⟨x, hr⟩ : ∃ x, ES[j]? = some x := ⟨_, List.getElem?_eq_getElem hlt⟩
      have hre : S.ents[j]? = some x.e := by rw [← HES.out, List.getElem?_map, hr]; rfl
      have HT := hide (take_snoc S.ents j x.e hre)
      have HTI := hide (atI_snoc (S.ents.take j) x.e p)
      have c1 : wr.cell? ⟨g, j * 14 + 1, none⟩ = some (.int .u16 x.e.src) := row_get RE.cells RE.len hN j x hr 1 _ rfl
      have c2 : wr.cell? ⟨g, j * 14 + 2, none⟩ = some (.int .u16 x.e.dst) := row_get RE.cells RE.len hN j x hr 2 _ rfl
      have c3 : wr.cell? ⟨g, j * 14 + 3, none⟩ = some (.int .u8 x.e.proto) := row_get RE.cells RE.len hN j x hr 3 _ rfl
      have c4 : wr.cell? ⟨g, j * 14 + 4, none⟩ = some (.int .u16 x.e.id) := row_get RE.cells RE.len hN j x hr 4 _ rfl
      have c5 : wr.cell? ⟨g, j * 14 + 5, none⟩ = some (.int .u8 x.off) := row_get RE.cells RE.len hN j x hr 5 _ rfl
      have c6 : wr.cell? ⟨g, j * 14 + 6, none⟩ = some (.bool x.more) := row_get RE.cells RE.len hN j x hr 6 _ rfl
      have c7 : wr.cell? ⟨g, j * 14 + 7, none⟩ = some (.int .u16 x.sport) := row_get RE.cells RE.len hN j x hr 7 _ rfl
      have c8 : wr.cell? ⟨g, j * 14 + 8, none⟩ = some (.int .u16 x.dport) := row_get RE.cells RE.len hN j x hr 8 _ rfl
      have c9 : wr.cell? ⟨g, j * 14 + 9, none⟩ = some (x.dv) := row_get RE.cells RE.len hN j x hr 9 _ rfl
      have HAL := hide (ralike_any x.e.src x.e.dst x.e.proto x.e.id x.off x.more x.sport x.dport x.dv p.src p.dst p.proto p.id p.off p.more p.sport p.dport (.slice ao p.dlen cap))
      have hlk : (x.e.src == p.src && x.e.dst == p.dst && x.e.proto == p.proto && x.e.id == p.id) = likeM x.e p := rfl
      rw [hlk] at HAL
      generalize likeM x.e p = lk at HAL HTI
      have hjl := few_snoc S.ents j (by omega)
      rw [hjl] at HTI
      have hdv1 : x.dv.oneCell' = true := by
        obtain ⟨da, dn, dc, hv⟩ := HH.out.raw x (List.mem_of_getElem? hr)
        rw [hv]; rfl
      clear hN hr hre hlk hjl
      go_wp2_with fail
      go_region_held3 (fun w' => w'.cell? ⟨yb, 5, none⟩ = some (.slice (some ⟨g, 0, none⟩) ES.length ec) ∧ w'.cell? ⟨g, j * 14 + 1, none⟩ = some (.int .u16 x.e.src) ∧ w'.cell? ⟨g, j * 14 + 2, none⟩ = some (.int .u16 x.e.dst) ∧ w'.cell? ⟨g, j * 14 + 3, none⟩ = some (.int .u8 x.e.proto) ∧ w'.cell? ⟨g, j * 14 + 4, none⟩ = some (.int .u16 x.e.id) ∧ w'.cell? ⟨g, j * 14 + 5, none⟩ = some (.int .u8 x.off) ∧ w'.cell? ⟨g, j * 14 + 6, none⟩ = some (.bool x.more) ∧ w'.cell? ⟨g, j * 14 + 7, none⟩ = some (.int .u16 x.sport) ∧ w'.cell? ⟨g, j * 14 + 8, none⟩ = some (.int .u16 x.dport) ∧ w'.cell? ⟨g, j * 14 + 9, none⟩ = some (x.dv) ∧ w'.cell? ⟨w.heap.size, 0, none⟩ = some (.int .u16 p.src) ∧ w'.cell? ⟨w.heap.size, 1, none⟩ = some (.int .u16 p.dst) ∧ w'.cell? ⟨w.heap.size, 2, none⟩ = some (.int .u8 p.proto) ∧ w'.cell? ⟨w.heap.size, 3, none⟩ = some (.int .u16 p.id) ∧ w'.cell? ⟨w.heap.size, 4, none⟩ = some (.int .u8 p.off) ∧ w'.cell? ⟨w.heap.size, 5, none⟩ = some (.bool p.more) ∧ w'.cell? ⟨w.heap.size, 6, none⟩ = some (.int .u16 p.sport) ∧ w'.cell? ⟨w.heap.size, 7, none⟩ = some (.int .u16 p.dport) ∧ w'.cell? ⟨w.heap.size, 8, none⟩ = some (.slice ao p.dlen cap)) (go_keep) (first | (go_at_call 95; refine (HAL.out _).mono ?_; rintro e w' ⟨rfl, hb⟩; have k1 := fun i => hb.cell (p := ⟨yb, i, none⟩) (by simp <;> omega); have k2 := fun i => hb.cell (p := ⟨g, i, none⟩) (by simp <;> omega); have k4 := fun i => hb.cell (p := ⟨w.heap.size, i, none⟩) (by simp <;> omega); have HK := hide hb; clear hb))
      have HBn : Hid (Below w2.heap.size w2 w') := (HBr.out.drew).trans (HK.out.mono (by have := HBr.out.size; simpa using this))
      rename_i hHeld
      clear k1 k2 k4 HK hHeld c1 c2 c3 c4 c5 c6 c7 c8 c9 cE dP
      cases lk with
      | true =>
        go_wp2
        go_roundw
        case rel => exact ⟨j + 1, by omega, by go_num, by rw [HT.out, HTI.out, if_pos rfl], HBn.out⟩
        case measure => simp [intOf]; omega
      | false =>
        go_wp2
        go_roundw
        case rel => exact ⟨j + 1, by omega, by go_num, by rw [HT.out, HTI.out, if_neg (by simp)], HBn.out⟩
        case measure => simp [intOf]; omega
    · obtain rfl : j = ES.length := by omega
      have htk : S.ents.take ES.length = S.ents := List.take_of_length_le (by omega)
      rw [htk] at hat ⊢
      have hoff := hp.off
      have hdl := hp.dlen
      have HRF := hide (fun wq hq => rrefused_at yb S F vS vE vN vV ES NS seq p ao cap wq hq HS.out hp)
      obtain ⟨f, hf⟩ : ∃ f, f = refusedM S ((atM S.ents p).bind (S.ents[·]?)) p (pcM seq p) := ⟨_, rfl⟩
      rw [← hf] at HRF
      have HF := hide hf
      clear hf htk
      go_wp2_with fail
      clear dP cE HR
      generalize hbn : wr.heap.size = bn at *
      generalize hWn : wr.alloc _ = wn
      have hzn : wn.heap.size = bn + 1 := by rw [← hWn, ← hbn]; simp
      have HNn : Hid (wn.heap[bn]? = some (.cells #[.int .i64 seq, .int .i64 (4 * p.off), .int .i64 (4 * p.off + p.dlen), .bool (!p.more), .bool false] 130 (0, 0))) := by rw [← hWn, ← hbn]; exact heap_alloc_new _ _
      have HPn : Hid (wn.heap[w.heap.size]? = some (.cells #[.int .u16 p.src, .int .u16 p.dst, .int .u8 p.proto, .int .u16 p.id, .int .u8 p.off, .bool p.more, .int .u16 p.sport, .int .u16 p.dport, .slice ao p.dlen cap] 40 (0, 0))) := by rw [← hWn]; exact (Below.heap_alloc _ _ _ (by omega)).trans HPr.out
      have HBn : Hid (Below w.heap.size w wn) := by rw [← hWn]; exact HBW.out.alloc (by omega) _
      clear hWn hbn HPr HBW HBr
      refine (HRF.out wn (HH.out.below HBn.out)).mono ?_
      rintro e wx ⟨rfl, hbx⟩
      have HBx : Hid (Below w.heap.size w wx) := HBn.out.trans (hbx.mono (by omega))
      have HNx : Hid (wx.heap[bn]? = some (.cells #[.int .i64 seq, .int .i64 (4 * p.off), .int .i64 (4 * p.off + p.dlen), .bool (!p.more), .bool false] 130 (0, 0))) := (hbx.block _ (by omega)).trans HNn.out
      have HPx : Hid (wx.heap[w.heap.size]? = some (.cells #[.int .u16 p.src, .int .u16 p.dst, .int .u8 p.proto, .int .u16 p.id, .int .u8 p.off, .bool p.more, .int .u16 p.sport, .int .u16 p.dport, .slice ao p.dlen cap] 40 (0, 0))) := (hbx.block _ (by omega)).trans HPn.out
      have hzx : bn < wx.heap.size := lt_of_block HNx.out
      have HRx := hide (HH.out.below HBx.out)
      clear hbx HNn HPn HBn HRF HP2 HB2
      by_cases hf0 : f = 0
      · obtain ⟨L, K, E1, hLK, hpc, hcs⟩ := piece_yes S seq p (by rw [← HF.out]; exact hf0)
        rw [hpc] at HS'
        have HLK := hide hLK
        have HCS := hide hcs
        clear hLK hpc hcs
        subst hf0
        go_upto_if 69 with (fail)
        go_cut [7] (fun a7 wc => ∃ (ES1 : List RE) (vE1 : Value) (F1 : Nat → Prop) (r1 : RE), a7 = .int .i64 K ∧ Hid (RefIs wc yb { S with ents := L } F1 vS vE1 vN vV ES1 NS) ∧ Hid (Stp wx wc F F1) ∧ Hid (ES1[K]? = some r1 ∧ r1.e = E1))
        case first =>
          rcases HCS.out with ⟨hn1, hn2, hn3, hn4⟩ | ⟨hn1, hn2⟩
          · have hai : atI S.ents p < 0 := by unfold atI; rw [hn1]; decide
            obtain ⟨i0, hi, hz0, hz1', hz2'⟩ := info_parts Tryz.infoEn
            have cE : wx.cell? ⟨yb, 5, none⟩ = some (.slice ea ES.length ec) := by rw [← hvE]; exact arr_cell HRx.out.blk 5
            have cF : wx.frozen? ⟨yb, 5, none⟩ = false := arr_frozen HRx.out.blk 5
            have cNow : wx.cell? ⟨yb, 2, none⟩ = some (.int .i64 S.now) := arr_cell HRx.out.blk 2
            have dP := arr_cell HPx.out
            have hyx : yb < wx.heap.size := by omega
            have hbx0 : w.heap.size < wx.heap.size := by omega
            have HRE := hide HRx.out.rE
            rw [hvE] at HRE
            have HYE : Hid (Value.ownBlock (.slice ea ES.length ec) ≠ some yb) := by rw [← hvE]; exact own_apart_blk HRx.out.rE HRx.out.blk (by decide)
            have HN := hide (And.intro hn2 (And.intro hn3 hn4))
            clear hn1 hn2 hn3 hn4
            go_wp2_with fail
            go_region_law (refine step_append_lies _ rfl (.tmp 74) (.tmp 82) 70 rfl 0 128 i0 _ 14 88 Tryz.underlying70 hi hz0 hz1' hz2' rfl (by decide) _ ES.length _ rfl (World.ownsRow.alloc HRE.out _) _ 1 1 (RE.cells ⟨newE S p, p.off, p.more, p.sport, p.dport, .slice ao p.dlen cap, .slice none 0 0⟩) rfl rfl (cells_new _ _ _) (RE.one _ rfl rfl) (by decide) (by unfold maxLen; omega) (by omega) (Nat.zero_le _) _ rfl ?_; intro g2 c2 wy hown hgrow hwh hlt2; have y5 : wy.cell? ⟨yb, 5, none⟩ = _ := hgrow.cell_far ⟨yb, 5, none⟩ (by simp; omega) (fun hh => HYE.out hh.symm); have yf : wy.frozen? ⟨yb, 5, none⟩ = _ := hgrow.frozen_far ⟨yb, 5, none⟩ (by simp; omega) (fun hh => HYE.out hh.symm))
            all_goals (go_wp2_with fail; go_meet)
            all_goals
              obtain ⟨F1, hR1, hS1⟩ := ref_grow HRx.out (((Below.refl wx.heap.size wx).drew).alloc (Nat.le_refl _) _) ⟨newE S p, p.off, p.more, p.sport, p.dport, .slice ao p.dlen cap, .slice none 0 0⟩ rfl rfl ⟨_, _, _, rfl⟩ hown (by rw [hvE]; exact hgrow) (by rw [hvE]; exact hwh)
              exact ⟨ES ++ [⟨newE S p, p.off, p.more, p.sport, p.dport, .slice ao p.dlen cap, .slice none 0 0⟩], _, F1, ⟨newE S p, p.off, p.more, p.sport, p.dport, .slice ao p.dlen cap, .slice none 0 0⟩, by rw [HN.out.2.1, hl], by rw [HN.out.1]; exact hR1, hS1, ⟨by rw [HN.out.2.1, hl, List.getElem?_append_right (Nat.le_refl _)]; simp, HN.out.2.2.symm⟩⟩
          · have hai : ¬ atI S.ents p < 0 := by unfold atI; rw [hn1]; simp
            have HAI : Hid (atI S.ents p = K) := by show _ = _; unfold atI; rw [hn1]
            have HN := hide hn2
            have hr1 : ∃ r, ES[K]? = some r ∧ r.e = E1 := by
              have he := HLK.out
              rw [hn2, ← HES.out, List.getElem?_map] at he
              cases hr : ES[K]? with
              | none => rw [hr] at he; simp at he
              | some r => rw [hr] at he; exact ⟨r, rfl, by simpa using he⟩
            obtain ⟨r1, hr1⟩ := hr1
            have HR1 := hide hr1
            clear hn1 hn2 hr1
            go_wp2_with fail
            go_meet
            exact ⟨ES, vE, F, r1, by rw [HAI.out], by rw [HN.out]; exact HRx.out, Stp.refl _ _, HR1.out⟩
        case rest =>
          obtain ⟨w4, hw4⟩ : ∃ w4, w4 = wc := ⟨_, rfl⟩
          subst hw4
          obtain ⟨ES1, vE1, F1, r1, rfl, HRc, HSc, HR1⟩ := hcut
          have hFb : ∀ k, w.heap.size ≤ k → ¬ F k := fun k hk hF => by have := HH.out.flt k hF; omega
          have HPc : Hid (w4.heap[w.heap.size]? = some (.cells #[.int .u16 p.src, .int .u16 p.dst, .int .u8 p.proto, .int .u16 p.id, .int .u8 p.off, .bool p.more, .int .u16 p.sport, .int .u16 p.dport, .slice ao p.dlen cap] 40 (0, 0))) := (HSc.out.only.block _ (by omega) (hFb _ (Nat.le_refl _))).trans HPx.out
          have HNc : Hid (w4.heap[bn]? = some (.cells #[.int .i64 seq, .int .i64 (4 * p.off), .int .i64 (4 * p.off + p.dlen), .bool (!p.more), .bool false] 130 (0, 0))) := (HSc.out.only.block _ hzx (hFb _ (by omega))).trans HNx.out
          have HF1 : Hid (∀ k, F1 k → k < w.heap.size ∨ wx.heap.size ≤ k) := fun k hk => (HSc.out.own k hk).elim (fun hF => .inl (HH.out.flt k hF)) .inr
          obtain ⟨hr1, hre⟩ := HR1.out
          have hK1 : K < ES1.length := (List.getElem?_eq_some_iff.1 hr1).1
          obtain ⟨g1, c1', hvE1⟩ := own_some HRc.out.rE (by omega)
          subst hvE1
          have hg1 : g1 < w4.heap.size := (HRc.out.rE.lt g1 rfl).2
          have hyc : yb < w4.heap.size := HRc.out.lt
          have hbc : bn < w4.heap.size := lt_of_block HNc.out
          have h0c : w.heap.size < w4.heap.size := lt_of_block HPc.out
          have dY := arr_cell HRc.out.blk
          have dN := arr_cell HNc.out
          have c0 : w4.cell? ⟨g1, K * 14, none⟩ = _ := row_get RE.cells RE.len HRc.out.rE K _ hr1 0 _ rfl
          have c1 := row_get RE.cells RE.len HRc.out.rE K _ hr1 1 _ rfl
          have c2 := row_get RE.cells RE.len HRc.out.rE K _ hr1 2 _ rfl
          have c3 := row_get RE.cells RE.len HRc.out.rE K _ hr1 3 _ rfl
          have c4 := row_get RE.cells RE.len HRc.out.rE K _ hr1 4 _ rfl
          have c5 := row_get RE.cells RE.len HRc.out.rE K _ hr1 5 _ rfl
          have c6 := row_get RE.cells RE.len HRc.out.rE K _ hr1 6 _ rfl
          have c7 := row_get RE.cells RE.len HRc.out.rE K _ hr1 7 _ rfl
          have c8 := row_get RE.cells RE.len HRc.out.rE K _ hr1 8 _ rfl
          have c9 := row_get RE.cells RE.len HRc.out.rE K _ hr1 9 _ rfl
          have c10 := row_get RE.cells RE.len HRc.out.rE K _ hr1 10 _ rfl
          have c11 := row_get RE.cells RE.len HRc.out.rE K _ hr1 11 _ rfl
          have c12 := row_get RE.cells RE.len HRc.out.rE K _ hr1 12 _ rfl
          have c13 := row_get RE.cells RE.len HRc.out.rE K _ hr1 13 _ rfl
          have HRP := hide (HRc.out.rP r1 (List.mem_of_getElem? hr1))
          have HRPF := hide (HRc.out.fP r1 (List.mem_of_getElem? hr1))
          obtain ⟨da, dn, dc, hdv⟩ := HRc.out.raw r1 (List.mem_of_getElem? hr1)
          obtain ⟨pa, pc, hpv⟩ := own_slice HRP.out
          have HR1' := hide hr1
          obtain ⟨re, roff, rmore, rsport, rdport, rdv, rpv⟩ := r1
          simp only at hre hdv hpv HRP HRPF c0 c1 c2 c3 c4 c5 c6 c7 c8 c9 c10 c11 c12 c13
          subst hre hdv hpv
          obtain ⟨eo, es, ed, ep, ei, eb, pcs, ek, et⟩ := re
          simp only at HRP HRPF c0 c1 c2 c3 c4 c5 c6 c7 c8 c9 c10 c11 c12 c13
          clear hr1 HR1
          go_upto_if 101 with (fail)
          clear c0 c1 c2 c3 c4 c5 c6 c7 c8 c9 c10 c11 c12 c13
          have HLT := hide hg1
          clear hg1 dY dN
          generalize hbe : w4.heap.size = be at *
          have HBE := hide hbe
          generalize hWa : w4.alloc _ = wa
          have HXa : Hid (wa.heap[be]? = some (.cells #[.int .i64 eo, .int .u16 es, .int .u16 ed, .int .u8 ep, .int .u16 ei, .int .u8 roff, .bool rmore, .int .u16 rsport, .int .u16 rdport, .slice da dn dc, .int .i64 eb, .slice pa pcs.length pc, .bool ek, .int .u8 et] 128 (0, 0))) := by rw [← hWa, ← hbe]; exact heap_alloc_new _ _
          have HYa : Hid (Below be w4 wa) := by rw [← hWa]; exact (Below.refl _ _).alloc (by omega) _
          clear hbe hWa
          go_cut [] (fun wd => ∃ (κ : Bool) (tv : Int), Hid (κ = (ek || decide (4 * p.off = 0)) ∧ tv = (if 4 * p.off = 0 then chosenM S p else et)) ∧ Hid (wd.heap[be]? = some (.cells #[.int .i64 eo, .int .u16 es, .int .u16 ed, .int .u8 ep, .int .u16 ei, .int .u8 roff, .bool rmore, .int .u16 rsport, .int .u16 rdport, .slice da dn dc, .int .i64 eb, .slice pa pcs.length pc, .bool κ, .int .u8 tv] 128 (0, 0))) ∧ Hid (Below be w4 wd))
          case first =>
            by_cases h0 : 4 * p.off = 0
            · have hA1 : (4 * p.off == 0) = true := by simp [h0]
              have hsl := ref_slots S _ p (pcM seq p) HF.out.symm h0
              have hs31 : S.slots.length = 31 := HS.out.slots.resolve_left hsl
              obtain ⟨gs, cs, hvS, hgs, hT⟩ := own_cells31 HRc.out.rS hs31
              have HCH : Hid (∀ wq, Below be w4 wq → Calls Tryz.prog 76 #[.pointer (some ⟨yb, 0, none⟩), .agg #[.int .u16 p.src, .int .u16 p.dst, .int .u8 p.proto, .int .u16 p.id, .int .u8 p.off, .bool p.more, .int .u16 p.sport, .int .u16 p.dport, .slice ao p.dlen cap]] wq fun e w' => e = .returned (.int .u8 (chosenM S p)) ∧ Below wq.heap.size wq w') := by
                intro wq hq
                have hsz := hq.size
                refine rchosen_any yb gs cs S.slots p.src p.dst p.proto p.id p.off p.more p.sport p.dport ao p.dlen cap wq hp.src hp.dst hp.proto hp.id hp.sport hp.dport ?_ ?_ ?_ ?_
                · rw [hq.cell (p := ⟨yb, 4, none⟩) hyc, ← hvS]; exact arr_cell HRc.out.blk 4
                · have := HBE.out; omega
                · intro j hj
                  rw [hq.cell (p := ⟨gs, j, none⟩) (by have := HBE.out; simp only; omega)]
                  exact hT j hj
                · have := HBE.out; omega
              have HX : Hid ((wa.setCell ⟨be, 12, none⟩ (.bool true)).heap[be]? = some (.cells #[.int .i64 eo, .int .u16 es, .int .u16 ed, .int .u8 ep, .int .u16 ei, .int .u8 roff, .bool rmore, .int .u16 rsport, .int .u16 rdport, .slice da dn dc, .int .i64 eb, .slice pa pcs.length pc, .bool true, .int .u8 et] 128 (0, 0))) := by
                show _ = _
                simpa using row_setCell (j := 12) HXa.out (.bool true)
              have HY : Hid (Below be w4 (wa.setCell ⟨be, 12, none⟩ (.bool true))) := HYa.out.setCell (Nat.le_refl _) _
              have dP : ∀ j, wa.cell? ⟨w.heap.size, j, none⟩ = #[.int .u16 p.src, .int .u16 p.dst, .int .u8 p.proto, .int .u16 p.id, .int .u8 p.off, .bool p.more, .int .u16 p.sport, .int .u16 p.dport, .slice ao p.dlen cap][j]? := fun j => (HYa.out.cell (p := ⟨w.heap.size, j, none⟩) h0c).trans (arr_cell HPc.out j)
              have dE := arr_cell HXa.out
              have fE := arr_frozen HXa.out
              have hza : be < wa.heap.size := lt_of_block HXa.out
              have hne0 : w.heap.size ≠ be := by omega
              have H0 := hide h0
              clear hT h0 hvS hsl
              go_wp2_with fail
              refine (HCH.out _ HY.out).mono ?_
              rintro e wf ⟨rfl, hbf⟩
              have HXf : Hid (wf.heap[be]? = some (.cells #[.int .i64 eo, .int .u16 es, .int .u16 ed, .int .u8 ep, .int .u16 ei, .int .u8 roff, .bool rmore, .int .u16 rsport, .int .u16 rdport, .slice da dn dc, .int .i64 eb, .slice pa pcs.length pc, .bool true, .int .u8 et] 128 (0, 0))) := (hbf.block be (by simpa using hza)).trans HX.out
              have HYf : Hid (Below be w4 wf) := HY.out.trans (hbf.mono (by simp; omega))
              have HXg : Hid ((wf.setCell ⟨be, 13, none⟩ (.int .u8 (chosenM S p))).heap[be]? = some (.cells #[.int .i64 eo, .int .u16 es, .int .u16 ed, .int .u8 ep, .int .u16 ei, .int .u8 roff, .bool rmore, .int .u16 rsport, .int .u16 rdport, .slice da dn dc, .int .i64 eb, .slice pa pcs.length pc, .bool true, .int .u8 (chosenM S p)] 128 (0, 0))) := by
                show _ = _
                simpa using row_setCell (j := 13) HXf.out (.int .u8 (chosenM S p))
              have dE2 := arr_cell HXf.out
              have fE2 := arr_frozen HXf.out
              have hzf : be < wf.heap.size := lt_of_block HXf.out
              clear hbf dE fE dP
              go_wp2_with fail
              go_meet
              exact ⟨true, chosenM S p, ⟨by simp [H0.out], by rw [if_pos H0.out]⟩, HXg.out, HYf.out.setCell (Nat.le_refl _) _⟩
            · have hA1 : (4 * p.off == 0) = false := by simp [h0]
              have H0 := hide h0
              clear h0
              go_wp2_with fail
              go_meet
              exact ⟨ek, et, ⟨by simp [H0.out], by rw [if_neg H0.out]⟩, HXa.out, HYa.out⟩
          case rest =>
            obtain ⟨κ, tv, HKT, HXd, HYd⟩ := hcut
            clear HXa HYa
            have HNd : Hid (wc.heap[bn]? = some (.cells #[.int .i64 seq, .int .i64 (4 * p.off), .int .i64 (4 * p.off + p.dlen), .bool (!p.more), .bool false] 130 (0, 0))) := (HYd.out.block bn hbc).trans HNc.out
            have HFE := hide (fewE S HS.out L K _ p HLK.out HCS.out)
            simp only at HFE
            obtain ⟨i0, hi, hz0, hz1', hz2'⟩ := info_parts Tryz.infoPi
            have HI := hide (And.intro hi (And.intro hz0 (And.intro hz1' hz2')))
            clear hi hz0 hz1' hz2'
            have HN1 : Hid (¬ F1 be ∧ ¬ F1 bn) := ⟨fun hF => by have := HRc.out.flt be hF; have := HBE.out; omega, fun hF => by have := HF1.out bn hF; omega⟩
            have hbnbe : bn ≠ be := by omega
            have HRd := hide (HRc.out.below (by rw [HBE.out]; exact HYd.out))
            have dE := arr_cell HXd.out
            have dN := arr_cell HNd.out
            have fN := arr_frozen HNd.out
            have hzed : be < wc.heap.size := lt_of_block HXd.out
            have hzbd : bn < wc.heap.size := lt_of_block HNd.out
            have HBd : Hid (Below be w4 wc) := HYd.out
            cases κ with
            | true =>
              have HNv : Hid ((wc.setCell ⟨bn, 4, none⟩ (.bool false)).heap[bn]? = some (.cells #[.int .i64 seq, .int .i64 (4 * p.off), .int .i64 (4 * p.off + p.dlen), .bool (!p.more), .bool false] 130 (0, 0))) := by
                show _ = _
                simpa using row_setCell (j := 4) HNd.out (.bool false)
              have HOv : Hid (Only (fun q => q = bn) wc (wc.setCell ⟨bn, 4, none⟩ (.bool false))) := (Only.refl _ _).setB _
              have HEv : Hid ((wc.setCell ⟨bn, 4, none⟩ (.bool false)).heap[be]? = some (.cells #[.int .i64 eo, .int .u16 es, .int .u16 ed, .int .u8 ep, .int .u16 ei, .int .u8 roff, .bool rmore, .int .u16 rsport, .int .u16 rdport, .slice da dn dc, .int .i64 eb, .slice pa pcs.length pc, .bool true, .int .u8 tv] 128 (0, 0))) := (HOv.out.block be hzed (fun hh => hbnbe hh.symm)).trans HXd.out
              have HRv := hide (HRd.out.only HOv.out (fun k hk hh => HN1.out.2 (by rw [← hh]; exact hk)))
              have HTD := hide (rtold_any yb _ F1 vS (.slice (some ⟨g1, 0, none⟩) ES1.length c1') vN vV ES1 NS seq 0 tv _ HRv.out (by have := evs_le S; simp only; omega))
              go_wp2_with fail
              clear dE dN fN
              generalize hWv : wc.setCell ⟨bn, 4, none⟩ (.bool false) = wv at *
              clear hWv
              refine HTD.out.mono ?_
              rintro e wt ⟨rfl, F2, vV2, hRt, hSt⟩
              have HRt : Hid (RefIs wt yb { S with ents := L, evs := S.evs ++ evT seq tv (pcs.take 0) } F2 vS (.slice (some ⟨g1, 0, none⟩) ES1.length c1') vN vV2 ES1 NS) := hRt
              have HEt : Hid (wt.heap[be]? = some (.cells #[.int .i64 eo, .int .u16 es, .int .u16 ed, .int .u8 ep, .int .u16 ei, .int .u8 roff, .bool rmore, .int .u16 rsport, .int .u16 rdport, .slice da dn dc, .int .i64 eb, .slice pa pcs.length pc, .bool true, .int .u8 tv] 128 (0, 0))) := (hSt.only.block be (lt_of_block HEv.out) HN1.out.1).trans HEv.out
              have HNt : Hid (wt.heap[bn]? = some (.cells #[.int .i64 seq, .int .i64 (4 * p.off), .int .i64 (4 * p.off + p.dlen), .bool (!p.more), .bool false] 130 (0, 0))) := (hSt.only.block bn (lt_of_block HNv.out) HN1.out.2).trans HNv.out
              have HNF : Hid (¬ F2 be ∧ ¬ F2 bn) := ⟨fun hF => (hSt.own be hF).elim HN1.out.1 (fun h1 => by have := lt_of_block HEv.out; omega), fun hF => (hSt.own bn hF).elim HN1.out.2 (fun h1 => by have := lt_of_block HNv.out; omega)⟩
              have HW : Hid (Stp w wt F F2) := (((((Stp.below HBx.out).trans HSc.out).trans (Stp.below (by rw [HBE.out]; exact HBd.out))).more HOv.out (fun k hk => by omega)).trans hSt)
              clear hRt hSt HTD
              go_wp2_with fail
              go_loopw [14, 13] (fun i l wr => ∃ (j : Nat) (F3 : Nat → Prop) (vV3 : Value), j ≤ pcs.length ∧ i = .int .i64 j ∧ Hid (RefIs wr yb { S with ents := L, evs := (S.evs ++ evT seq tv (pcs.take j)) } F3 vS (.slice (some ⟨g1, 0, none⟩) ES1.length c1') vN vV3 ES1 NS) ∧ Hid (Stp wt wr F2 F3) ∧ Hid (Own1 wr wt.heap.size F3 l j ((pcs.take j).map (fgt true)))) (fun i _ _ => pcs.length - (intOf i).toNat)
              case atStart => exact ⟨0, F2, vV2, Nat.zero_le _, rfl, HRt.out, Stp.refl _ _, ⟨World.ownsRow_nil _ _ _ _, by simp [Value.ownBlock]⟩⟩
              case round =>
                obtain ⟨j, F3, vV3, hj, rfl, HRr, HSr, HO⟩ := hrel
                have HEr : Hid (wr.heap[be]? = some (.cells #[.int .i64 eo, .int .u16 es, .int .u16 ed, .int .u8 ep, .int .u16 ei, .int .u8 roff, .bool rmore, .int .u16 rsport, .int .u16 rdport, .slice da dn dc, .int .i64 eb, .slice pa pcs.length pc, .bool true, .int .u8 tv] 128 (0, 0))) := (HSr.out.only.block be (lt_of_block HEt.out) HNF.out.1).trans HEt.out
                have HNr : Hid (wr.heap[bn]? = some (.cells #[.int .i64 seq, .int .i64 (4 * p.off), .int .i64 (4 * p.off + p.dlen), .bool (!p.more), .bool false] 130 (0, 0))) := (HSr.out.only.block bn (lt_of_block HNt.out) HNF.out.2).trans HNt.out
                have dE := arr_cell HEr.out
                have hze : be < wr.heap.size := lt_of_block HEr.out
                have hzb : bn < wr.heap.size := lt_of_block HNr.out
                have hyr : yb < wr.heap.size := HRr.out.lt
                obtain ⟨hi, hz0, hz1', hz2'⟩ := HI.out
                have hpl := HFE.out.1
                obtain ⟨la, lc, hlv⟩ := own_slice HO.out.row
                subst hlv
                by_cases hlt : j < pcs.length
                · have hrow := HRr.out.rP _ (List.mem_of_getElem? HR1'.out)
                  simp only at hrow
                  obtain ⟨gp, q0, hgq⟩ := own_some hrow (by omega)
                  rw [Value.slice.injEq] at hgq
                  obtain ⟨rfl, _, rfl⟩ := hgq
                  have hgz : gp < wr.heap.size := (hrow.lt gp rfl).2
                  obtain ⟨x, hr⟩ : ∃ x, pcs[j]? = some x := ⟨_, List.getElem?_eq_getElem hlt⟩
                  have c0 : wr.cell? ⟨gp, j * 5, none⟩ = _ := row_get Pc.cells Pc.len hrow j x hr 0 _ rfl
                  have c1 := row_get Pc.cells Pc.len hrow j x hr 1 _ rfl
                  have c2 := row_get Pc.cells Pc.len hrow j x hr 2 _ rfl
                  have c3 := row_get Pc.cells Pc.len hrow j x hr 3 _ rfl
                  have c4 := row_get Pc.cells Pc.len hrow j x hr 4 _ rfl
                  have HT := hide (take_snoc pcs j x hr)
                  obtain ⟨xs, xa, xb, xe, xw⟩ := x
                  simp only at c0 c1 c2 c3 c4
                  clear hr hrow
                  cases xw with
                  | true =>
                    have HB0 := hide (HRr.out.below ((Below.refl wr.heap.size wr).alloc (Nat.le_refl _) (.cells #[.int .i64 xs, .int .i64 xa, .int .i64 xb, .bool xe, .bool true] 130)))
                    have hev : (S.evs ++ evT seq tv (pcs.take j)).length ≤ 2000000000000 := by
                      have h1 := evs_le S
                      have h2 := wL_le pcs j
                      have h3 := HFE.out.1
                      simp only [evT, List.length_append, List.length_cons, List.length_map]
                      omega
                    have HTD := hide (rtold_any yb _ F3 vS (.slice (some ⟨g1, 0, none⟩) ES1.length c1') vN vV3 ES1 NS xs 0 tv _ HB0.out hev)
                    clear hev
                    go_wp2_with fail
                    clear c0 c1 c2 c3 c4
                    have HBQ : Hid (∃ bq, wr.heap.size = bq) := ⟨_, rfl⟩
                    generalize hWq : wr.alloc _ = wq at *
                    have HXq : Hid (wq.heap[wr.heap.size]? = some (.cells #[.int .i64 xs, .int .i64 xa, .int .i64 xb, .bool xe, .bool true] 130 (0, 0))) := by rw [← hWq]; exact heap_alloc_new _ _
                    have HYq : Hid (Below wr.heap.size wr wq) := by rw [← hWq]; exact (Below.refl _ _).alloc (Nat.le_refl _) _
                    clear hWq HBQ
                    generalize hbq : wr.heap.size = bq at *
                    have HBQ := hide hbq
                    clear hbq
                    refine HTD.out.mono ?_
                    rintro e w5 ⟨rfl, F4, vV4, hR5, hS5⟩
                    have HR5 := hide hR5
                    have HS5 : Hid (Stp wr w5 F3 F4) := (Stp.below (by rw [HBQ.out]; exact HYq.out)).trans hS5
                    have HbqF : Hid (¬ F3 bq) := fun hF => by have := HRr.out.flt bq hF; have := HBQ.out; omega
                    have HRq : Hid (∀ k, F4 k → F3 k ∨ wq.heap.size ≤ k) := hS5.own
                    have hzq : bq < wq.heap.size := lt_of_block HXq.out
                    have HX5 : Hid (w5.heap[bq]? = some (.cells #[.int .i64 xs, .int .i64 xa, .int .i64 xb, .bool xe, .bool true] 130 (0, 0))) := (hS5.only.block bq (lt_of_block HXq.out) HbqF.out).trans HXq.out
                    have HO5 : Hid (Own1 w5 wt.heap.size F4 (.slice la j lc) j ((pcs.take j).map (fgt true))) := HO.out.only HS5.out.only (fun g hg => (HO.out.far g hg).2) (fun k hk hF => (HS5.out.own k hF).resolve_right (by omega))
                    have d5 := arr_cell HX5.out
                    have f5 := arr_frozen HX5.out
                    have hz5 : bq < w5.heap.size := lt_of_block HX5.out
                    clear hR5 hS5 HTD HB0 dE
                    have HO6 : Hid ((w5.setCell ⟨bq, 4, none⟩ (.bool false)).ownsRow 0 130 5 (.slice la j lc) j (((pcs.take j).map (fgt true)).flatMap Pc.cells)) := ownsRow_setCell_other HO5.out.row (fun hh => by have h1 := (HO.out.row.lt bq hh).2; have := HBQ.out; omega) _
                    go_wp2_with (at_builtin; refine wpList_append_at _ rfl (.tmp 143) (.tmp 145) 126 rfl 130 i0 _ 5 32 Tryz.underlying126 hi hz0 hz1' hz2' rfl (by decide) _ _ _ rfl (HO6.out.alloc _) _ 1 1 (by decide) (Pc.cells ⟨xs, xa, xb, xe, false⟩) rfl rfl (cells_newS _ _ _ _ _) (Pc.one _) (by unfold maxLen; omega) (by omega) ?_)
                    intro g6 c6 w6 hown hgrow hwh _
                    have hon : Only (fun k => k = bq ∨ Value.ownBlock (.slice la j lc) = some k) w5 w6 := (((Only.refl _ _).setCell (p := ⟨bq, 4, none⟩) (fun _ => .inl rfl) _).alloc _).grown hgrow (fun k _ hk => .inr hk)
                    have hF4 : ∀ k, F4 k → ¬ (k = bq ∨ Value.ownBlock (.slice la j lc) = some k) := by
                      intro k hk hh
                      rcases hh with rfl | hh
                      · rcases HRq.out _ hk with h1 | h1
                        · exact HbqF.out h1
                        · omega
                      · exact (HO5.out.far k hh).2 hk
                    have HR6 := hide (HR5.out.only hon hF4)
                    have HS6 : Hid (Stp wt w6 F2 F4) := (HSr.out.trans HS5.out).more hon (fun k hk => by rcases hk with rfl | hk; (have := HSr.out.only.size; have := HBQ.out; omega); exact (HO5.out.far k hk).1)
                    have HO7 : Hid (Own1 w6 wt.heap.size F4 (.slice (some ⟨g6, 0, none⟩) (j + 1) c6) (j + 1) ((pcs.take (j + 1)).map (fgt true))) := by
                      refine ⟨by rw [HT.out, List.map_append, List.flatMap_append]; simpa [fgt] using hown, fun g hg => ?_⟩
                      simp only [Value.ownBlock, Option.some.injEq] at hg
                      subst hg
                      rcases hwh with h1 | h1
                      · exact HO5.out.far _ h1
                      · have h2 : w5.heap.size ≤ g6 := by first | omega | (simp at h1; omega)
                        refine ⟨by have := HSr.out.only.size; have := HS5.out.only.size; omega, fun hF => ?_⟩
                        have := HR5.out.flt _ hF
                        omega
                    clear hown hgrow hwh hon hF4 d5 f5
                    go_wp2
                    go_roundw
                    case rel =>
                      refine ⟨j + 1, F4, vV4, by omega, by go_num, ?_, HS6.out, HO7.out⟩
                      have := HR6.out
                      rw [HT.out]
                      show RefIs _ _ _ _ _ _ _ _ _ _
                      have hev : evT seq tv (pcs.take j ++ [⟨xs, xa, xb, xe, true⟩]) = evT seq tv (pcs.take j) ++ [⟨xs, 0, tv⟩] := by simp [evT, wL_snoc]
                      rw [hev, ← List.append_assoc]
                      exact this
                    case measure => simp [intOf]; omega
                  | false =>
                    have HO6 := hide HO.out.row
                    go_wp2_with (at_builtin; refine wpList_append_at _ rfl (.tmp 143) (.tmp 145) 126 rfl 130 i0 _ 5 32 Tryz.underlying126 hi hz0 hz1' hz2' rfl (by decide) _ _ _ rfl ((HO6.out.alloc _).alloc _) _ 1 1 (by decide) (Pc.cells ⟨xs, xa, xb, xe, false⟩) rfl rfl (cells_new2 _ _ _ _) (Pc.one _) (by unfold maxLen; omega) (by omega) ?_)
                    intro g6 c6 w6 hown hgrow hwh _
                    have hon : Only (fun k => Value.ownBlock (.slice la j lc) = some k) wr w6 := ((((Only.refl _ _).alloc _).alloc _).grown hgrow (fun k _ hk => hk))
                    have HR6 := hide (HRr.out.only hon (fun k hk hh => (HO.out.far k hh).2 hk))
                    have HS6 : Hid (Stp wt w6 F2 F3) := HSr.out.more hon (fun k hk => (HO.out.far k hk).1)
                    have HO7 : Hid (Own1 w6 wt.heap.size F3 (.slice (some ⟨g6, 0, none⟩) (j + 1) c6) (j + 1) ((pcs.take (j + 1)).map (fgt true))) := by
                      refine ⟨by rw [HT.out, List.map_append, List.flatMap_append]; simpa [fgt] using hown, fun g hg => ?_⟩
                      simp only [Value.ownBlock, Option.some.injEq] at hg
                      subst hg
                      rcases hwh with h1 | h1
                      · exact HO.out.far _ h1
                      · have h2 : wr.heap.size ≤ g6 := by first | omega | (simp at h1; omega)
                        refine ⟨by have := HSr.out.only.size; omega, fun hF => ?_⟩
                        have := HRr.out.flt _ hF
                        omega
                    clear hown hgrow hwh hon c0 c1 c2 c3 c4
                    go_wp2
                    go_roundw
                    case rel => exact ⟨j + 1, F3, vV3, by omega, by go_num, by rw [HT.out, show evT seq tv (pcs.take j ++ [⟨xs, xa, xb, xe, false⟩]) = evT seq tv (pcs.take j) from by simp [evT, wL_snoc]]; exact HR6.out, HS6.out, HO7.out⟩
                    case measure => simp [intOf]; omega
                · obtain rfl : j = pcs.length := by omega
                  rw [List.take_length] at HRr HO
                  have dN := arr_cell HNr.out
                  have fE := arr_frozen HEr.out
                  go_wp2_with (at_builtin; refine wpList_append_at _ rfl (.tmp 147) (.tmp 149) 126 rfl 130 i0 _ 5 32 Tryz.underlying126 hi hz0 hz1' hz2' rfl (by decide) _ _ _ rfl (HO.out.row.alloc _) _ 1 1 (by decide) (Pc.cells ⟨seq, 4 * p.off, 4 * p.off + p.dlen, !p.more, false⟩) rfl rfl (cells_new _ _ _) (Pc.one _) (by unfold maxLen; omega) (by omega) ?_)
                  intro g6 c6 w6 hown hgrow hwh _
                  have hon : Only (fun k => Value.ownBlock (.slice la pcs.length lc) = some k) wr w6 := (((Only.refl _ _).alloc _).grown hgrow (fun k _ hk => hk))
                  have hwt : be < wt.heap.size := lt_of_block HEt.out
                  have HE6 : Hid (w6.heap[be]? = some (.cells #[.int .i64 eo, .int .u16 es, .int .u16 ed, .int .u8 ep, .int .u16 ei, .int .u8 roff, .bool rmore, .int .u16 rsport, .int .u16 rdport, .slice da dn dc, .int .i64 eb, .slice pa pcs.length pc, .bool true, .int .u8 tv] 128 (0, 0))) := (hon.block be hze (fun hh => by have := (HO.out.far be hh).1; omega)).trans HEr.out
                  have HR6 := hide (HRr.out.only hon (fun k hk hh => (HO.out.far k hh).2 hk))
                  have HS6 : Hid (Stp wt w6 F2 F3) := HSr.out.more hon (fun k hk => (HO.out.far k hk).1)
                  have HG6 : Hid (wt.heap.size ≤ g6 ∧ ¬ F3 g6 ∧ g6 ≠ be) := by
                    rcases hwh with h1 | h1
                    · have h2 := HO.out.far _ h1
                      exact ⟨h2.1, h2.2, by omega⟩
                    · have h2 : wr.heap.size ≤ g6 := by first | omega | (simp at h1; omega)
                      have h3 := HSr.out.only.size
                      exact ⟨by omega, fun hF => by have := HRr.out.flt _ hF; omega, by omega⟩
                  have HP6 : Hid (w6.ownsRow 0 130 5 (.slice (some ⟨g6, 0, none⟩) (pcs.length + 1) c6) (pcs.length + 1) ((pcs.map (fgt true) ++ [(⟨seq, 4 * p.off, 4 * p.off + p.dlen, !p.more, false⟩ : Pc)]).flatMap Pc.cells)) := by
                    show World.ownsRow _ _ _ _ _ _ _
                    rw [List.flatMap_append]
                    simpa using hown
                  have dE6 := arr_cell HE6.out
                  have fE6 := arr_frozen HE6.out
                  have hze6 : be < w6.heap.size := lt_of_block HE6.out
                  have hF3e : ¬ F3 be := fun hF => by
                    rcases HSr.out.own be hF with h1 | h1
                    · exact HNF.out.1 h1
                    · omega
                  clear hown hgrow hwh hon dN dE fE
                  go_wp2_with fail
                  generalize hW7 : w6.setCell ⟨be, 11, none⟩ (.slice (some ⟨g6, 0, none⟩) (pcs.length + 1) c6) = w7
                  have HE7 : Hid (w7.heap[be]? = some (.cells #[.int .i64 eo, .int .u16 es, .int .u16 ed, .int .u8 ep, .int .u16 ei, .int .u8 roff, .bool rmore, .int .u16 rsport, .int .u16 rdport, .slice da dn dc, .int .i64 eb, .slice (some ⟨g6, 0, none⟩) (pcs.length + 1) c6, .bool true, .int .u8 tv] 128 (0, 0))) := by
                    rw [← hW7]
                    show _ = _
                    simpa using row_setCell (j := 11) HE6.out (.slice (some ⟨g6, 0, none⟩) (pcs.length + 1) c6)
                  have HO67 : Hid (Only (fun q => q = be) w6 w7) := by rw [← hW7]; exact (Only.refl _ _).setB _
                  have HR7 := hide (HR6.out.only HO67.out (fun k hk hh => hF3e (by rw [← hh]; exact hk)))
                  have HP7 := hide (own_only HP6.out HO67.out (fun g hg hh => by simp only [Value.ownBlock, Option.some.injEq] at hg; exact HG6.out.2.2 (hg.trans hh)))
                  have hze7 : be < w7.heap.size := lt_of_block HE7.out
                  have hy7 : yb < w7.heap.size := HR7.out.lt
                  have hg7 : g1 < w7.heap.size := (HR7.out.rE.lt g1 rfl).2
                  have dE7 := arr_cell HE7.out
                  have cY : w7.cell? ⟨yb, 5, none⟩ = some (.slice (some ⟨g1, 0, none⟩) ES1.length c1') := arr_cell HR7.out.blk 5
                  have c0 : w7.cell? ⟨g1, K * 14, none⟩ = _ := row_get RE.cells RE.len HR7.out.rE K _ HR1'.out 0 _ rfl
                  have c1 := row_get RE.cells RE.len HR7.out.rE K _ HR1'.out 1 _ rfl
                  have c2 := row_get RE.cells RE.len HR7.out.rE K _ HR1'.out 2 _ rfl
                  have c3 := row_get RE.cells RE.len HR7.out.rE K _ HR1'.out 3 _ rfl
                  have c4 := row_get RE.cells RE.len HR7.out.rE K _ HR1'.out 4 _ rfl
                  have c5 := row_get RE.cells RE.len HR7.out.rE K _ HR1'.out 5 _ rfl
                  have c6_1 := row_get RE.cells RE.len HR7.out.rE K _ HR1'.out 6 _ rfl
                  have c7 := row_get RE.cells RE.len HR7.out.rE K _ HR1'.out 7 _ rfl
                  have c8 := row_get RE.cells RE.len HR7.out.rE K _ HR1'.out 8 _ rfl
                  have c9 := row_get RE.cells RE.len HR7.out.rE K _ HR1'.out 9 _ rfl
                  have c10 := row_get RE.cells RE.len HR7.out.rE K _ HR1'.out 10 _ rfl
                  have c11 := row_get RE.cells RE.len HR7.out.rE K _ HR1'.out 11 _ rfl
                  have c12 := row_get RE.cells RE.len HR7.out.rE K _ HR1'.out 12 _ rfl
                  have c13 := row_get RE.cells RE.len HR7.out.rE K _ HR1'.out 13 _ rfl
                  have fG : ∀ i, w7.frozen? ⟨g1, i, none⟩ = false := fun i => HR7.out.rE.frozenAt i
                  have hneg : g1 ≠ be := fun hh => hF3e (by rw [← hh]; exact HR7.out.fE g1 rfl)
                  clear hW7 dE6 fE6
                  go_region
                  clear c0 c1 c2 c3 c4 c5 c6_1 c7 c8 c9 c10 c11 c12 c13 fG cY dE7
                  have HP7' : Hid (w7.ownsRow 0 130 5 (.slice (some ⟨g6, 0, none⟩) (pcs.length + 1) c6) (pcs.map (fgt true) ++ [(⟨seq, 4 * p.off, 4 * p.off + p.dlen, !p.more, false⟩ : Pc)]).length ((pcs.map (fgt true) ++ [(⟨seq, 4 * p.off, 4 * p.off + p.dlen, !p.more, false⟩ : Pc)]).flatMap Pc.cells)) := by
                    show World.ownsRow _ _ _ _ _ _ _
                    rw [List.length_append, List.length_map]
                    exact HP7.out
                  have hput := ref_put HR7.out K _ (⟨⟨eo, es, ed, ep, ei, eb, pcs.map (fgt true) ++ [⟨seq, 4 * p.off, 4 * p.off + p.dlen, !p.more, false⟩], true, tv⟩, roff, rmore, rsport, rdport, .slice da dn dc, .slice (some ⟨g6, 0, none⟩) (pcs.length + 1) c6⟩ : RE) HR1'.out HP7'.out ⟨_, _, _, rfl⟩
                  generalize hW8 : World.drew _ = w8
                  have HR8 : Hid (RefIs w8 yb { S with ents := L.set K ⟨eo, es, ed, ep, ei, eb, pcs.map (fgt true) ++ [⟨seq, 4 * p.off, 4 * p.off + p.dlen, !p.more, false⟩], true, tv⟩, evs := (S.evs ++ evT seq tv pcs) } (fun k => F3 k ∨ Value.ownBlock (.slice (some ⟨g6, 0, none⟩) (pcs.length + 1) c6) = some k) vS (.slice (some ⟨g1, 0, none⟩) (ES1.set K (⟨⟨eo, es, ed, ep, ei, eb, pcs.map (fgt true) ++ [⟨seq, 4 * p.off, 4 * p.off + p.dlen, !p.more, false⟩], true, tv⟩, roff, rmore, rsport, rdport, .slice da dn dc, .slice (some ⟨g6, 0, none⟩) (pcs.length + 1) c6⟩ : RE)).length c1') vN vV3 (ES1.set K (⟨⟨eo, es, ed, ep, ei, eb, pcs.map (fgt true) ++ [⟨seq, 4 * p.off, 4 * p.off + p.dlen, !p.more, false⟩], true, tv⟩, roff, rmore, rsport, rdport, .slice da dn dc, .slice (some ⟨g6, 0, none⟩) (pcs.length + 1) c6⟩ : RE)) NS) := by
                    rw [← hW8]
                    exact hput.1.below ((Below.refl _ _).drew)
                  have HO78 : Hid (Only (fun q => q = g1) w7 w8) := by
                    rw [← hW8]
                    exact hput.2.below ((Below.refl _ _).drew)
                  clear hW8 hput
                  have HE8 : Hid (w8.heap[be]? = some (.cells #[.int .i64 eo, .int .u16 es, .int .u16 ed, .int .u8 ep, .int .u16 ei, .int .u8 roff, .bool rmore, .int .u16 rsport, .int .u16 rdport, .slice da dn dc, .int .i64 eb, .slice (some ⟨g6, 0, none⟩) (pcs.length + 1) c6, .bool true, .int .u8 tv] 128 (0, 0))) := (HO78.out.block be hze7 (fun hh => hneg hh.symm)).trans HE7.out
                  have HSW : Hid (Stp w w8 F (fun k => F3 k ∨ Value.ownBlock (.slice (some ⟨g6, 0, none⟩) (pcs.length + 1) c6) = some k)) := by
                    have h1 : Stp w w7 F F3 := (HW.out.trans HS6.out).more HO67.out (fun k hk => by omega)
                    refine ⟨h1.only.trans HO78.out (fun i hi hh => ?_), fun k hk => ?_⟩
                    · rw [hh] at hi ⊢
                      exact (h1.own g1 (HR7.out.fE g1 rfl)).resolve_right (by omega)
                    · rcases hk with hk | hk
                      · exact h1.own k hk
                      · simp only [Value.ownBlock, Option.some.injEq] at hk
                        have := HG6.out.1
                        have := HW.out.only.size
                        exact .inr (by omega)
                  obtain ⟨wm, hwm⟩ : ∃ wm, wm = wholeM ⟨eo, es, ed, ep, ei, eb, pcs.map (fgt true) ++ [⟨seq, 4 * p.off, 4 * p.off + p.dlen, !p.more, false⟩], true, tv⟩ := ⟨_, rfl⟩
                  have HWM := hide hwm
                  have HWH : Hid (Calls Tryz.prog 97 #[.agg #[.int .i64 eo, .int .u16 es, .int .u16 ed, .int .u8 ep, .int .u16 ei, .int .u8 roff, .bool rmore, .int .u16 rsport, .int .u16 rdport, .slice da dn dc, .int .i64 eb, .slice (some ⟨g6, 0, none⟩) (pcs.length + 1) c6, .bool true, .int .u8 tv]] w8 fun e w' => e = .returned (.bool wm) ∧ Below w8.heap.size w8 w') := by
                    rw [hwm]
                    exact rwhole_any (⟨⟨eo, es, ed, ep, ei, eb, pcs.map (fgt true) ++ [⟨seq, 4 * p.off, 4 * p.off + p.dlen, !p.more, false⟩], true, tv⟩, roff, rmore, rsport, rdport, .slice da dn dc, .slice (some ⟨g6, 0, none⟩) (pcs.length + 1) c6⟩ : RE) w8 (HR8.out.rP (⟨⟨eo, es, ed, ep, ei, eb, pcs.map (fgt true) ++ [⟨seq, 4 * p.off, 4 * p.off + p.dlen, !p.more, false⟩], true, tv⟩, roff, rmore, rsport, rdport, .slice da dn dc, .slice (some ⟨g6, 0, none⟩) (pcs.length + 1) c6⟩ : RE) (List.mem_of_getElem? (List.getElem?_set_self hK1))) (by
                      intro q hq'
                      rw [List.mem_append, List.mem_singleton] at hq'
                      rcases hq' with hq' | rfl
                      · exact pcs_map pcs (fgt true) (fun q => by unfold fgt; exact ⟨rfl, rfl⟩) HFE.out.2 q hq'
                      · simp only; omega) (by simp only [List.length_append, List.length_map, List.length_singleton]; omega)
                  have hze8 : be < w8.heap.size := lt_of_block HE8.out
                  have dE8 := arr_cell HE8.out
                  have hle1 : (ES1.set K (⟨⟨eo, es, ed, ep, ei, eb, pcs.map (fgt true) ++ [⟨seq, 4 * p.off, 4 * p.off + p.dlen, !p.more, false⟩], true, tv⟩, roff, rmore, rsport, rdport, .slice da dn dc, .slice (some ⟨g6, 0, none⟩) (pcs.length + 1) c6⟩ : RE)).length ≤ 1000 := by
                    have h1 := congrArg List.length HRc.out.hes
                    rw [List.length_map] at h1
                    rw [List.length_set, h1]
                    rcases HCS.out with ⟨_, h2, _, _⟩ | ⟨_, h2⟩
                    · have := ents_few S HS.out
                      simp only [h2, List.length_append, List.length_singleton]; omega
                    · simp only [h2]; omega
                  have HLE := hide hle1
                  clear hle1 hwm
                  go_wp2_with fail
                  refine HWH.out.mono ?_
                  rintro e w9 ⟨rfl, hb9⟩
                  have HR9 := hide (HR8.out.below hb9)
                  have HS9 := hide (HSW.out.trans (Stp.below hb9))
                  clear hb9 dE8 HWH
                  cases wm with
                  | true =>
                    have HG := hide (rgone_any yb K _ _ vS _ vN vV3 _ NS w9 HR9.out HLE.out (by rw [List.length_set]; exact hK1))
                    go_wp2_with fail
                    refine HG.out.mono ?_
                    rintro e w10 ⟨rfl, F6, vE6, hR10, hS10⟩
                    have HR10 := hide hR10
                    have HS10 := hide hS10
                    clear hR10 hS10 HG
                    go_wp2
                    go_end0
                    have h2 : S' = { S with evs := (S.evs ++ evT seq tv pcs), ents := goneM L K } := by
                      rw [HS'.out, taken_is S ⟨eo, es, ed, ep, ei, eb, pcs, ek, et⟩ p seq true tv HKT.out.1 HKT.out.2]
                      show ({ S with evs := S.evs ++ evT seq tv pcs, ents := if wholeM ⟨eo, es, ed, ep, ei, eb, pcs.map (fgt true) ++ [⟨seq, 4 * p.off, 4 * p.off + p.dlen, !p.more, false⟩], true, tv⟩ = true then goneM L K else L.set K ⟨eo, es, ed, ep, ei, eb, pcs.map (fgt true) ++ [⟨seq, 4 * p.off, 4 * p.off + p.dlen, !p.more, false⟩], true, tv⟩ } : Cl) = _
                      rw [if_pos HWM.out.symm]
                    have h1 := HR10.out
                    rw [h2]
                    simp only [gone_set] at h1
                    exact ⟨rfl, F6, vE6, vV3, _, h1, HS9.out.trans HS10.out⟩
                  | false =>
                    go_wp2
                    go_end0
                    have h2 : S' = { S with evs := (S.evs ++ evT seq tv pcs), ents := L.set K ⟨eo, es, ed, ep, ei, eb, pcs.map (fgt true) ++ [⟨seq, 4 * p.off, 4 * p.off + p.dlen, !p.more, false⟩], true, tv⟩ } := by
                      rw [HS'.out, taken_is S ⟨eo, es, ed, ep, ei, eb, pcs, ek, et⟩ p seq true tv HKT.out.1 HKT.out.2]
                      show ({ S with evs := S.evs ++ evT seq tv pcs, ents := if wholeM ⟨eo, es, ed, ep, ei, eb, pcs.map (fgt true) ++ [⟨seq, 4 * p.off, 4 * p.off + p.dlen, !p.more, false⟩], true, tv⟩ = true then goneM L K else L.set K ⟨eo, es, ed, ep, ei, eb, pcs.map (fgt true) ++ [⟨seq, 4 * p.off, 4 * p.off + p.dlen, !p.more, false⟩], true, tv⟩ } : Cl) = _
                      rw [if_neg (by rw [← HWM.out]; simp)]
                    rw [h2]
                    exact ⟨rfl, _, _, vV3, _, HR9.out, HS9.out⟩
            | false =>
              have HNv : Hid ((wc.setCell ⟨bn, 4, none⟩ (.bool true)).heap[bn]? = some (.cells #[.int .i64 seq, .int .i64 (4 * p.off), .int .i64 (4 * p.off + p.dlen), .bool (!p.more), .bool true] 130 (0, 0))) := by
                show _ = _
                simpa using row_setCell (j := 4) HNd.out (.bool true)
              have HOv : Hid (Only (fun q => q = bn) wc (wc.setCell ⟨bn, 4, none⟩ (.bool true))) := (Only.refl _ _).setB _
              have HEv : Hid ((wc.setCell ⟨bn, 4, none⟩ (.bool true)).heap[be]? = some (.cells #[.int .i64 eo, .int .u16 es, .int .u16 ed, .int .u8 ep, .int .u16 ei, .int .u8 roff, .bool rmore, .int .u16 rsport, .int .u16 rdport, .slice da dn dc, .int .i64 eb, .slice pa pcs.length pc, .bool false, .int .u8 tv] 128 (0, 0))) := (HOv.out.block be hzed (fun hh => hbnbe hh.symm)).trans HXd.out
              have HRv := hide (HRd.out.only HOv.out (fun k hk hh => HN1.out.2 (by rw [← hh]; exact hk)))
              go_wp2_with fail
              clear dE dN fN
              generalize hWv : wc.setCell ⟨bn, 4, none⟩ (.bool true) = wt at *
              clear hWv
              obtain ⟨F2, hF2⟩ : ∃ F2, F2 = F1 := ⟨_, rfl⟩
              obtain ⟨vV2, hvV2⟩ : ∃ vV2, vV2 = vV := ⟨_, rfl⟩
              have HRt : Hid (RefIs wt yb { S with ents := L, evs := S.evs } F2 vS (.slice (some ⟨g1, 0, none⟩) ES1.length c1') vN vV2 ES1 NS) := by rw [hF2, hvV2]; exact HRv.out
              have HEt := HEv
              have HNt := HNv
              have HNF : Hid (¬ F2 be ∧ ¬ F2 bn) := by rw [hF2]; exact HN1.out
              have HW : Hid (Stp w wt F F2) := by rw [hF2]; exact ((((Stp.below HBx.out).trans HSc.out).trans (Stp.below (by rw [HBE.out]; exact HBd.out))).more HOv.out (fun k hk => by omega))
              clear hF2 hvV2
              go_loopw [14, 13] (fun i l wr => ∃ (j : Nat) (F3 : Nat → Prop) (vV3 : Value), j ≤ pcs.length ∧ i = .int .i64 j ∧ Hid (RefIs wr yb { S with ents := L, evs := S.evs } F3 vS (.slice (some ⟨g1, 0, none⟩) ES1.length c1') vN vV3 ES1 NS) ∧ Hid (Stp wt wr F2 F3) ∧ Hid (Own1 wr wt.heap.size F3 l j ((pcs.take j).map (fgt false)))) (fun i _ _ => pcs.length - (intOf i).toNat)
              case atStart => exact ⟨0, F2, vV2, Nat.zero_le _, rfl, HRt.out, Stp.refl _ _, ⟨World.ownsRow_nil _ _ _ _, by simp [Value.ownBlock]⟩⟩
              case round =>
                obtain ⟨j, F3, vV3, hj, rfl, HRr, HSr, HO⟩ := hrel
                have HEr : Hid (wr.heap[be]? = some (.cells #[.int .i64 eo, .int .u16 es, .int .u16 ed, .int .u8 ep, .int .u16 ei, .int .u8 roff, .bool rmore, .int .u16 rsport, .int .u16 rdport, .slice da dn dc, .int .i64 eb, .slice pa pcs.length pc, .bool false, .int .u8 tv] 128 (0, 0))) := (HSr.out.only.block be (lt_of_block HEt.out) HNF.out.1).trans HEt.out
                have HNr : Hid (wr.heap[bn]? = some (.cells #[.int .i64 seq, .int .i64 (4 * p.off), .int .i64 (4 * p.off + p.dlen), .bool (!p.more), .bool true] 130 (0, 0))) := (HSr.out.only.block bn (lt_of_block HNt.out) HNF.out.2).trans HNt.out
                have dE := arr_cell HEr.out
                have hze : be < wr.heap.size := lt_of_block HEr.out
                have hzb : bn < wr.heap.size := lt_of_block HNr.out
                have hyr : yb < wr.heap.size := HRr.out.lt
                obtain ⟨hi, hz0, hz1', hz2'⟩ := HI.out
                have hpl := HFE.out.1
                obtain ⟨la, lc, hlv⟩ := own_slice HO.out.row
                subst hlv
                by_cases hlt : j < pcs.length
                · have hrow := HRr.out.rP _ (List.mem_of_getElem? HR1'.out)
                  simp only at hrow
                  obtain ⟨gp, q0, hgq⟩ := own_some hrow (by omega)
                  rw [Value.slice.injEq] at hgq
                  obtain ⟨rfl, _, rfl⟩ := hgq
                  have hgz : gp < wr.heap.size := (hrow.lt gp rfl).2
                  obtain ⟨x, hr⟩ : ∃ x, pcs[j]? = some x := ⟨_, List.getElem?_eq_getElem hlt⟩
                  have c0 : wr.cell? ⟨gp, j * 5, none⟩ = _ := row_get Pc.cells Pc.len hrow j x hr 0 _ rfl
                  have c1 := row_get Pc.cells Pc.len hrow j x hr 1 _ rfl
                  have c2 := row_get Pc.cells Pc.len hrow j x hr 2 _ rfl
                  have c3 := row_get Pc.cells Pc.len hrow j x hr 3 _ rfl
                  have c4 := row_get Pc.cells Pc.len hrow j x hr 4 _ rfl
                  have HT := hide (take_snoc pcs j x hr)
                  obtain ⟨xs, xa, xb, xe, xw⟩ := x
                  simp only at c0 c1 c2 c3 c4
                  clear hr hrow
                  cases xw with
                  | true =>
                    have HO6 := hide HO.out.row
                    go_wp2_with (at_builtin; refine wpList_append_at _ rfl (.tmp 143) (.tmp 145) 126 rfl 130 i0 _ 5 32 Tryz.underlying126 hi hz0 hz1' hz2' rfl (by decide) _ _ _ rfl ((HO6.out.alloc _).alloc _) _ 1 1 (by decide) (Pc.cells ⟨xs, xa, xb, xe, true⟩) rfl rfl (cells_new2 _ _ _ _) (Pc.one _) (by unfold maxLen; omega) (by omega) ?_)
                    intro g6 c6 w6 hown hgrow hwh _
                    have hon : Only (fun k => Value.ownBlock (.slice la j lc) = some k) wr w6 := ((((Only.refl _ _).alloc _).alloc _).grown hgrow (fun k _ hk => hk))
                    have HR6 := hide (HRr.out.only hon (fun k hk hh => (HO.out.far k hh).2 hk))
                    have HS6 : Hid (Stp wt w6 F2 F3) := HSr.out.more hon (fun k hk => (HO.out.far k hk).1)
                    have HO7 : Hid (Own1 w6 wt.heap.size F3 (.slice (some ⟨g6, 0, none⟩) (j + 1) c6) (j + 1) ((pcs.take (j + 1)).map (fgt false))) := by
                      refine ⟨by rw [HT.out, List.map_append, List.flatMap_append]; simpa [fgt] using hown, fun g hg => ?_⟩
                      simp only [Value.ownBlock, Option.some.injEq] at hg
                      subst hg
                      rcases hwh with h1 | h1
                      · exact HO.out.far _ h1
                      · have h2 : wr.heap.size ≤ g6 := by first | omega | (simp at h1; omega)
                        refine ⟨by have := HSr.out.only.size; omega, fun hF => ?_⟩
                        have := HRr.out.flt _ hF
                        omega
                    clear hown hgrow hwh hon c0 c1 c2 c3 c4
                    go_wp2
                    go_roundw
                    case rel => exact ⟨j + 1, F3, vV3, by omega, by go_num, by exact HR6.out, HS6.out, HO7.out⟩
                    case measure => simp [intOf]; omega
                  | false =>
                    have HO6 := hide HO.out.row
                    go_wp2_with (at_builtin; refine wpList_append_at _ rfl (.tmp 143) (.tmp 145) 126 rfl 130 i0 _ 5 32 Tryz.underlying126 hi hz0 hz1' hz2' rfl (by decide) _ _ _ rfl ((HO6.out.alloc _).alloc _) _ 1 1 (by decide) (Pc.cells ⟨xs, xa, xb, xe, false⟩) rfl rfl (cells_new2 _ _ _ _) (Pc.one _) (by unfold maxLen; omega) (by omega) ?_)
                    intro g6 c6 w6 hown hgrow hwh _
                    have hon : Only (fun k => Value.ownBlock (.slice la j lc) = some k) wr w6 := ((((Only.refl _ _).alloc _).alloc _).grown hgrow (fun k _ hk => hk))
                    have HR6 := hide (HRr.out.only hon (fun k hk hh => (HO.out.far k hh).2 hk))
                    have HS6 : Hid (Stp wt w6 F2 F3) := HSr.out.more hon (fun k hk => (HO.out.far k hk).1)
                    have HO7 : Hid (Own1 w6 wt.heap.size F3 (.slice (some ⟨g6, 0, none⟩) (j + 1) c6) (j + 1) ((pcs.take (j + 1)).map (fgt false))) := by
                      refine ⟨by rw [HT.out, List.map_append, List.flatMap_append]; simpa [fgt] using hown, fun g hg => ?_⟩
                      simp only [Value.ownBlock, Option.some.injEq] at hg
                      subst hg
                      rcases hwh with h1 | h1
                      · exact HO.out.far _ h1
                      · have h2 : wr.heap.size ≤ g6 := by first | omega | (simp at h1; omega)
                        refine ⟨by have := HSr.out.only.size; omega, fun hF => ?_⟩
                        have := HRr.out.flt _ hF
                        omega
                    clear hown hgrow hwh hon c0 c1 c2 c3 c4
                    go_wp2
                    go_roundw
                    case rel => exact ⟨j + 1, F3, vV3, by omega, by go_num, by exact HR6.out, HS6.out, HO7.out⟩
                    case measure => simp [intOf]; omega
                · obtain rfl : j = pcs.length := by omega
                  rw [List.take_length] at HO
                  have dN := arr_cell HNr.out
                  have fE := arr_frozen HEr.out
                  go_wp2_with (at_builtin; refine wpList_append_at _ rfl (.tmp 147) (.tmp 149) 126 rfl 130 i0 _ 5 32 Tryz.underlying126 hi hz0 hz1' hz2' rfl (by decide) _ _ _ rfl (HO.out.row.alloc _) _ 1 1 (by decide) (Pc.cells ⟨seq, 4 * p.off, 4 * p.off + p.dlen, !p.more, true⟩) rfl rfl (cells_new _ _ _) (Pc.one _) (by unfold maxLen; omega) (by omega) ?_)
                  intro g6 c6 w6 hown hgrow hwh _
                  have hon : Only (fun k => Value.ownBlock (.slice la pcs.length lc) = some k) wr w6 := (((Only.refl _ _).alloc _).grown hgrow (fun k _ hk => hk))
                  have hwt : be < wt.heap.size := lt_of_block HEt.out
                  have HE6 : Hid (w6.heap[be]? = some (.cells #[.int .i64 eo, .int .u16 es, .int .u16 ed, .int .u8 ep, .int .u16 ei, .int .u8 roff, .bool rmore, .int .u16 rsport, .int .u16 rdport, .slice da dn dc, .int .i64 eb, .slice pa pcs.length pc, .bool false, .int .u8 tv] 128 (0, 0))) := (hon.block be hze (fun hh => by have := (HO.out.far be hh).1; omega)).trans HEr.out
                  have HR6 := hide (HRr.out.only hon (fun k hk hh => (HO.out.far k hh).2 hk))
                  have HS6 : Hid (Stp wt w6 F2 F3) := HSr.out.more hon (fun k hk => (HO.out.far k hk).1)
                  have HG6 : Hid (wt.heap.size ≤ g6 ∧ ¬ F3 g6 ∧ g6 ≠ be) := by
                    rcases hwh with h1 | h1
                    · have h2 := HO.out.far _ h1
                      exact ⟨h2.1, h2.2, by omega⟩
                    · have h2 : wr.heap.size ≤ g6 := by first | omega | (simp at h1; omega)
                      have h3 := HSr.out.only.size
                      exact ⟨by omega, fun hF => by have := HRr.out.flt _ hF; omega, by omega⟩
                  have HP6 : Hid (w6.ownsRow 0 130 5 (.slice (some ⟨g6, 0, none⟩) (pcs.length + 1) c6) (pcs.length + 1) ((pcs.map (fgt false) ++ [(⟨seq, 4 * p.off, 4 * p.off + p.dlen, !p.more, true⟩ : Pc)]).flatMap Pc.cells)) := by
                    show World.ownsRow _ _ _ _ _ _ _
                    rw [List.flatMap_append]
                    simpa using hown
                  have dE6 := arr_cell HE6.out
                  have fE6 := arr_frozen HE6.out
                  have hze6 : be < w6.heap.size := lt_of_block HE6.out
                  have hF3e : ¬ F3 be := fun hF => by
                    rcases HSr.out.own be hF with h1 | h1
                    · exact HNF.out.1 h1
                    · omega
                  clear hown hgrow hwh hon dN dE fE
                  go_wp2_with fail
                  generalize hW7 : w6.setCell ⟨be, 11, none⟩ (.slice (some ⟨g6, 0, none⟩) (pcs.length + 1) c6) = w7
                  have HE7 : Hid (w7.heap[be]? = some (.cells #[.int .i64 eo, .int .u16 es, .int .u16 ed, .int .u8 ep, .int .u16 ei, .int .u8 roff, .bool rmore, .int .u16 rsport, .int .u16 rdport, .slice da dn dc, .int .i64 eb, .slice (some ⟨g6, 0, none⟩) (pcs.length + 1) c6, .bool false, .int .u8 tv] 128 (0, 0))) := by
                    rw [← hW7]
                    show _ = _
                    simpa using row_setCell (j := 11) HE6.out (.slice (some ⟨g6, 0, none⟩) (pcs.length + 1) c6)
                  have HO67 : Hid (Only (fun q => q = be) w6 w7) := by rw [← hW7]; exact (Only.refl _ _).setB _
                  have HR7 := hide (HR6.out.only HO67.out (fun k hk hh => hF3e (by rw [← hh]; exact hk)))
                  have HP7 := hide (own_only HP6.out HO67.out (fun g hg hh => by simp only [Value.ownBlock, Option.some.injEq] at hg; exact HG6.out.2.2 (hg.trans hh)))
                  have hze7 : be < w7.heap.size := lt_of_block HE7.out
                  have hy7 : yb < w7.heap.size := HR7.out.lt
                  have hg7 : g1 < w7.heap.size := (HR7.out.rE.lt g1 rfl).2
                  have dE7 := arr_cell HE7.out
                  have cY : w7.cell? ⟨yb, 5, none⟩ = some (.slice (some ⟨g1, 0, none⟩) ES1.length c1') := arr_cell HR7.out.blk 5
                  have c0 : w7.cell? ⟨g1, K * 14, none⟩ = _ := row_get RE.cells RE.len HR7.out.rE K _ HR1'.out 0 _ rfl
                  have c1 := row_get RE.cells RE.len HR7.out.rE K _ HR1'.out 1 _ rfl
                  have c2 := row_get RE.cells RE.len HR7.out.rE K _ HR1'.out 2 _ rfl
                  have c3 := row_get RE.cells RE.len HR7.out.rE K _ HR1'.out 3 _ rfl
                  have c4 := row_get RE.cells RE.len HR7.out.rE K _ HR1'.out 4 _ rfl
                  have c5 := row_get RE.cells RE.len HR7.out.rE K _ HR1'.out 5 _ rfl
                  have c6_1 := row_get RE.cells RE.len HR7.out.rE K _ HR1'.out 6 _ rfl
                  have c7 := row_get RE.cells RE.len HR7.out.rE K _ HR1'.out 7 _ rfl
                  have c8 := row_get RE.cells RE.len HR7.out.rE K _ HR1'.out 8 _ rfl
                  have c9 := row_get RE.cells RE.len HR7.out.rE K _ HR1'.out 9 _ rfl
                  have c10 := row_get RE.cells RE.len HR7.out.rE K _ HR1'.out 10 _ rfl
                  have c11 := row_get RE.cells RE.len HR7.out.rE K _ HR1'.out 11 _ rfl
                  have c12 := row_get RE.cells RE.len HR7.out.rE K _ HR1'.out 12 _ rfl
                  have c13 := row_get RE.cells RE.len HR7.out.rE K _ HR1'.out 13 _ rfl
                  have fG : ∀ i, w7.frozen? ⟨g1, i, none⟩ = false := fun i => HR7.out.rE.frozenAt i
                  have hneg : g1 ≠ be := fun hh => hF3e (by rw [← hh]; exact HR7.out.fE g1 rfl)
                  clear hW7 dE6 fE6
                  go_region
                  clear c0 c1 c2 c3 c4 c5 c6_1 c7 c8 c9 c10 c11 c12 c13 fG cY dE7
                  have HP7' : Hid (w7.ownsRow 0 130 5 (.slice (some ⟨g6, 0, none⟩) (pcs.length + 1) c6) (pcs.map (fgt false) ++ [(⟨seq, 4 * p.off, 4 * p.off + p.dlen, !p.more, true⟩ : Pc)]).length ((pcs.map (fgt false) ++ [(⟨seq, 4 * p.off, 4 * p.off + p.dlen, !p.more, true⟩ : Pc)]).flatMap Pc.cells)) := by
                    show World.ownsRow _ _ _ _ _ _ _
                    rw [List.length_append, List.length_map]
                    exact HP7.out
                  have hput := ref_put HR7.out K _ (⟨⟨eo, es, ed, ep, ei, eb, pcs.map (fgt false) ++ [⟨seq, 4 * p.off, 4 * p.off + p.dlen, !p.more, true⟩], false, tv⟩, roff, rmore, rsport, rdport, .slice da dn dc, .slice (some ⟨g6, 0, none⟩) (pcs.length + 1) c6⟩ : RE) HR1'.out HP7'.out ⟨_, _, _, rfl⟩
                  generalize hW8 : World.drew _ = w8
                  have HR8 : Hid (RefIs w8 yb { S with ents := L.set K ⟨eo, es, ed, ep, ei, eb, pcs.map (fgt false) ++ [⟨seq, 4 * p.off, 4 * p.off + p.dlen, !p.more, true⟩], false, tv⟩, evs := S.evs } (fun k => F3 k ∨ Value.ownBlock (.slice (some ⟨g6, 0, none⟩) (pcs.length + 1) c6) = some k) vS (.slice (some ⟨g1, 0, none⟩) (ES1.set K (⟨⟨eo, es, ed, ep, ei, eb, pcs.map (fgt false) ++ [⟨seq, 4 * p.off, 4 * p.off + p.dlen, !p.more, true⟩], false, tv⟩, roff, rmore, rsport, rdport, .slice da dn dc, .slice (some ⟨g6, 0, none⟩) (pcs.length + 1) c6⟩ : RE)).length c1') vN vV3 (ES1.set K (⟨⟨eo, es, ed, ep, ei, eb, pcs.map (fgt false) ++ [⟨seq, 4 * p.off, 4 * p.off + p.dlen, !p.more, true⟩], false, tv⟩, roff, rmore, rsport, rdport, .slice da dn dc, .slice (some ⟨g6, 0, none⟩) (pcs.length + 1) c6⟩ : RE)) NS) := by
                    rw [← hW8]
                    exact hput.1.below ((Below.refl _ _).drew)
                  have HO78 : Hid (Only (fun q => q = g1) w7 w8) := by
                    rw [← hW8]
                    exact hput.2.below ((Below.refl _ _).drew)
                  clear hW8 hput
                  have HE8 : Hid (w8.heap[be]? = some (.cells #[.int .i64 eo, .int .u16 es, .int .u16 ed, .int .u8 ep, .int .u16 ei, .int .u8 roff, .bool rmore, .int .u16 rsport, .int .u16 rdport, .slice da dn dc, .int .i64 eb, .slice (some ⟨g6, 0, none⟩) (pcs.length + 1) c6, .bool false, .int .u8 tv] 128 (0, 0))) := (HO78.out.block be hze7 (fun hh => hneg hh.symm)).trans HE7.out
                  have HSW : Hid (Stp w w8 F (fun k => F3 k ∨ Value.ownBlock (.slice (some ⟨g6, 0, none⟩) (pcs.length + 1) c6) = some k)) := by
                    have h1 : Stp w w7 F F3 := (HW.out.trans HS6.out).more HO67.out (fun k hk => by omega)
                    refine ⟨h1.only.trans HO78.out (fun i hi hh => ?_), fun k hk => ?_⟩
                    · rw [hh] at hi ⊢
                      exact (h1.own g1 (HR7.out.fE g1 rfl)).resolve_right (by omega)
                    · rcases hk with hk | hk
                      · exact h1.own k hk
                      · simp only [Value.ownBlock, Option.some.injEq] at hk
                        have := HG6.out.1
                        have := HW.out.only.size
                        exact .inr (by omega)
                  obtain ⟨wm, hwm⟩ : ∃ wm, wm = wholeM ⟨eo, es, ed, ep, ei, eb, pcs.map (fgt false) ++ [⟨seq, 4 * p.off, 4 * p.off + p.dlen, !p.more, true⟩], false, tv⟩ := ⟨_, rfl⟩
                  have HWM := hide hwm
                  have HWH : Hid (Calls Tryz.prog 97 #[.agg #[.int .i64 eo, .int .u16 es, .int .u16 ed, .int .u8 ep, .int .u16 ei, .int .u8 roff, .bool rmore, .int .u16 rsport, .int .u16 rdport, .slice da dn dc, .int .i64 eb, .slice (some ⟨g6, 0, none⟩) (pcs.length + 1) c6, .bool false, .int .u8 tv]] w8 fun e w' => e = .returned (.bool wm) ∧ Below w8.heap.size w8 w') := by
                    rw [hwm]
                    exact rwhole_any (⟨⟨eo, es, ed, ep, ei, eb, pcs.map (fgt false) ++ [⟨seq, 4 * p.off, 4 * p.off + p.dlen, !p.more, true⟩], false, tv⟩, roff, rmore, rsport, rdport, .slice da dn dc, .slice (some ⟨g6, 0, none⟩) (pcs.length + 1) c6⟩ : RE) w8 (HR8.out.rP (⟨⟨eo, es, ed, ep, ei, eb, pcs.map (fgt false) ++ [⟨seq, 4 * p.off, 4 * p.off + p.dlen, !p.more, true⟩], false, tv⟩, roff, rmore, rsport, rdport, .slice da dn dc, .slice (some ⟨g6, 0, none⟩) (pcs.length + 1) c6⟩ : RE) (List.mem_of_getElem? (List.getElem?_set_self hK1))) (by
                      intro q hq'
                      rw [List.mem_append, List.mem_singleton] at hq'
                      rcases hq' with hq' | rfl
                      · exact pcs_map pcs (fgt false) (fun q => by unfold fgt; exact ⟨rfl, rfl⟩) HFE.out.2 q hq'
                      · simp only; omega) (by simp only [List.length_append, List.length_map, List.length_singleton]; omega)
                  have hze8 : be < w8.heap.size := lt_of_block HE8.out
                  have dE8 := arr_cell HE8.out
                  have hle1 : (ES1.set K (⟨⟨eo, es, ed, ep, ei, eb, pcs.map (fgt false) ++ [⟨seq, 4 * p.off, 4 * p.off + p.dlen, !p.more, true⟩], false, tv⟩, roff, rmore, rsport, rdport, .slice da dn dc, .slice (some ⟨g6, 0, none⟩) (pcs.length + 1) c6⟩ : RE)).length ≤ 1000 := by
                    have h1 := congrArg List.length HRc.out.hes
                    rw [List.length_map] at h1
                    rw [List.length_set, h1]
                    rcases HCS.out with ⟨_, h2, _, _⟩ | ⟨_, h2⟩
                    · have := ents_few S HS.out
                      simp only [h2, List.length_append, List.length_singleton]; omega
                    · simp only [h2]; omega
                  have HLE := hide hle1
                  clear hle1 hwm
                  go_wp2_with fail
                  refine HWH.out.mono ?_
                  rintro e w9 ⟨rfl, hb9⟩
                  have HR9 := hide (HR8.out.below hb9)
                  have HS9 := hide (HSW.out.trans (Stp.below hb9))
                  clear hb9 dE8 HWH
                  cases wm with
                  | true =>
                    have HG := hide (rgone_any yb K _ _ vS _ vN vV3 _ NS w9 HR9.out HLE.out (by rw [List.length_set]; exact hK1))
                    go_wp2_with fail
                    refine HG.out.mono ?_
                    rintro e w10 ⟨rfl, F6, vE6, hR10, hS10⟩
                    have HR10 := hide hR10
                    have HS10 := hide hS10
                    clear hR10 hS10 HG
                    go_wp2
                    go_end0
                    have h2 : S' = { S with evs := S.evs, ents := goneM L K } := by
                      rw [HS'.out, taken_is S ⟨eo, es, ed, ep, ei, eb, pcs, ek, et⟩ p seq false tv HKT.out.1 HKT.out.2]
                      show ({ S with evs := S.evs ++ [], ents := if wholeM ⟨eo, es, ed, ep, ei, eb, pcs.map (fgt false) ++ [⟨seq, 4 * p.off, 4 * p.off + p.dlen, !p.more, true⟩], false, tv⟩ = true then goneM L K else L.set K ⟨eo, es, ed, ep, ei, eb, pcs.map (fgt false) ++ [⟨seq, 4 * p.off, 4 * p.off + p.dlen, !p.more, true⟩], false, tv⟩ } : Cl) = _
                      rw [if_pos HWM.out.symm]; simp
                    have h1 := HR10.out
                    rw [h2]
                    simp only [gone_set] at h1
                    exact ⟨rfl, F6, vE6, vV3, _, h1, HS9.out.trans HS10.out⟩
                  | false =>
                    go_wp2
                    go_end0
                    have h2 : S' = { S with evs := S.evs, ents := L.set K ⟨eo, es, ed, ep, ei, eb, pcs.map (fgt false) ++ [⟨seq, 4 * p.off, 4 * p.off + p.dlen, !p.more, true⟩], false, tv⟩ } := by
                      rw [HS'.out, taken_is S ⟨eo, es, ed, ep, ei, eb, pcs, ek, et⟩ p seq false tv HKT.out.1 HKT.out.2]
                      show ({ S with evs := S.evs ++ [], ents := if wholeM ⟨eo, es, ed, ep, ei, eb, pcs.map (fgt false) ++ [⟨seq, 4 * p.off, 4 * p.off + p.dlen, !p.more, true⟩], false, tv⟩ = true then goneM L K else L.set K ⟨eo, es, ed, ep, ei, eb, pcs.map (fgt false) ++ [⟨seq, 4 * p.off, 4 * p.off + p.dlen, !p.more, true⟩], false, tv⟩ } : Cl) = _
                      rw [if_neg (by rw [← HWM.out]; simp)]; simp
                    rw [h2]
                    exact ⟨rfl, _, _, vV3, _, HR9.out, HS9.out⟩
      · have hf1 : (f != 0) = true := by simp [hf0]
        have HF0 := hide hf0
        have htold := rtold_any yb S F vS vE vN vV ES NS seq f 0 wx HRx.out (by have := evs_le S; omega)
        have HTD := hide htold
        clear hf0 htold
        go_wp2_with fail
        refine HTD.out.mono ?_
        rintro e wy ⟨rfl, F', vV', hRy, hSt⟩
        have HRy := hide hRy
        have HSt := hide hSt
        clear hRy hSt
        go_wp2
        refine bodyPost_ret (results_none rfl _ _ _) rfl ?_
        exact ⟨rfl, F', vE, vV', ES, by rw [HS'.out, piece_no S seq p f HF.out.symm HF0.out]; exact HRy.out, (Stp.below HBx.out).trans HSt.out⟩

end Go.Proofs.YtajphdppmdoalaaGreat

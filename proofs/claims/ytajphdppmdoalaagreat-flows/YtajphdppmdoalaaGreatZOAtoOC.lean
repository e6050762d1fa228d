import Derived.Test.YtajphdppmdoalaaGreatZNNtoNK
import Derived.Test.YtajphdppmdoalaaGreatZHtoLB
namespace Go.Proofs.YtajphdppmdoalaaGreat
open Go.RowKit
set_option linter.unusedVariables false

/-- One on its way, as the program keeps it. -/
def Snt.pcells (s : Snt) : List Value := [.int .i64 s.seq, .int .i64 s.frm, .int .i64 s.to, .int .u16 s.p.src, .int .u16 s.p.dst, .int .u8 s.p.proto, .int .u16 s.p.id, .int .u8 s.p.off, .bool s.p.more, .int .u16 s.p.sport, .int .u16 s.p.dport, .slice none 0 0, .int .i64 s.p.dlen]
/-- The program's cluster at block xb: of S its life, next, slots, evs, sent; its replicas' entries are RR (at times T), in the blocks Fs; all its blocks are F. -/
structure PrC (w : World) (xb : Nat) (S : Cl) (F : Nat → Prop) (gS : Nat) (cs : Array Value) (vT vV vN : Value) (RR : Nat → List PE) (Fs : Nat → Nat → Prop) (T : Nat → Int) : Prop where
  blk : w.heap[xb]? = some (.cells #[.slice (some ⟨gS, 0, none⟩) cs.size cs.size, .int .i64 S.life, vT, .int .i64 S.next, vV, vN] 69 (0, 0))
  stB : w.heap[gS]? = some (.cells cs 122 (0, 0))
  st : ∀ o, o < cs.size → ∃ vE, cs[o]? = some vE ∧ StIs w vE (RR o) (T o) (Fs o)
  rT : w.ownsRow 0 5 1 vT S.slots.length (S.slots.map (Value.int .u8))
  rV : w.ownsRow 0 60 3 vV S.evs.length (S.evs.flatMap Ev.cells)
  rN : w.ownsRow 0 114 13 vN S.sent.length (S.sent.flatMap Snt.pcells)
  dis : ∀ o o', o ≠ o' → ∀ k, Fs o k → ¬ Fs o' k
  sub : ∀ o k, Fs o k → F k ∧ k ≠ gS ∧ k ≠ xb ∧ vT.ownBlock ≠ some k ∧ vV.ownBlock ≠ some k ∧ vN.ownBlock ≠ some k
  fx : F xb
  fg : F gS
  fT : ∀ g, vT.ownBlock = some g → F g
  fV : ∀ g, vV.ownBlock = some g → F g
  fN : ∀ g, vN.ownBlock = some g → F g
  flt : ∀ k, F k → k < w.heap.size
/-- The program's cluster reads as the document's S; its blocks are F. -/
def PrIs (w : World) (xb : Nat) (S : Cl) (F : Nat → Prop) : Prop := ∃ gS cs vT vV vN RR Fs, PrC w xb S F gS cs vT vV vN RR Fs (fun _ => S.now) ∧ S.reps = (cs.size : Int) ∧ ∀ o, o < cs.size → (RR o).map PE.e = entsM S o
theorem PrC.only {w w' : World} {xb : Nat} {S : Cl} {F G : Nat → Prop} {gS : Nat} {cs : Array Value} {vT vV vN : Value} {RR : Nat → List PE} {Fs : Nat → Nat → Prop} {T : Nat → Int} (h : PrC w xb S F gS cs vT vV vN RR Fs T) (ho : Only G w w') (hG : ∀ k, F k → ¬ G k) : PrC w' xb S F gS cs vT vV vN RR Fs T :=
  ⟨(ho.block xb (h.flt xb h.fx) (hG xb h.fx)).trans h.blk, (ho.block gS (h.flt gS h.fg) (hG gS h.fg)).trans h.stB, fun o ho' => by
    obtain ⟨vE, h1, h2⟩ := h.st o ho'
    exact ⟨vE, h1, h2.only ho (fun k hk => hG k (h.sub o k hk).1)⟩, own_only h.rT ho (fun g hg => hG g (h.fT g hg)), own_only h.rV ho (fun g hg => hG g (h.fV g hg)), own_only h.rN ho (fun g hg => hG g (h.fN g hg)), h.dis, h.sub, h.fx, h.fg, h.fT, h.fV, h.fN, fun k hk => Nat.lt_of_lt_of_le (h.flt k hk) ho.size⟩
theorem PrC.below {w w' : World} {xb : Nat} {S : Cl} {F : Nat → Prop} {gS : Nat} {cs : Array Value} {vT vV vN : Value} {RR : Nat → List PE} {Fs : Nat → Nat → Prop} {T : Nat → Int} (h : PrC w xb S F gS cs vT vV vN RR Fs T) (hb : Below w.heap.size w w') : PrC w' xb S F gS cs vT vV vN RR Fs T :=
  h.only (G := fun _ => False) (Only.of_below hb) (fun _ _ f => f)
theorem PrIs.only {w w' : World} {xb : Nat} {S : Cl} {F G : Nat → Prop} (h : PrIs w xb S F) (ho : Only G w w') (hG : ∀ k, F k → ¬ G k) : PrIs w' xb S F := by
  obtain ⟨gS, cs, vT, vV, vN, RR, Fs, h1, h2⟩ := h
  exact ⟨gS, cs, vT, vV, vN, RR, Fs, h1.only ho hG, h2⟩
theorem PrIs.below {w w' : World} {xb : Nat} {S : Cl} {F : Nat → Prop} (h : PrIs w xb S F) (hb : Below w.heap.size w w') : PrIs w' xb S F :=
  h.only (G := fun _ => False) (Only.of_below hb) (fun _ _ f => f)

/-- The block of the cluster, its events, its table or those on their way change. -/
theorem PrC.upd {w w' : World} {xb : Nat} {S : Cl} {F G : Nat → Prop} {gS : Nat} {cs : Array Value} {vT vV vN : Value} {RR : Nat → List PE} {Fs : Nat → Nat → Prop} {T : Nat → Int} (h : PrC w xb S F gS cs vT vV vN RR Fs T) (ho : Only G w w') (hG : ∀ k, G k → k = xb ∨ vT.ownBlock = some k ∨ vV.ownBlock = some k ∨ vN.ownBlock = some k) (S' : Cl) (vT' vV' vN' : Value)
    (hblk : w'.heap[xb]? = some (.cells #[.slice (some ⟨gS, 0, none⟩) cs.size cs.size, .int .i64 S'.life, vT', .int .i64 S'.next, vV', vN'] 69 (0, 0)))
    (rT : w'.ownsRow 0 5 1 vT' S'.slots.length (S'.slots.map (Value.int .u8))) (rV : w'.ownsRow 0 60 3 vV' S'.evs.length (S'.evs.flatMap Ev.cells)) (rN : w'.ownsRow 0 114 13 vN' S'.sent.length (S'.sent.flatMap Snt.pcells))
    (lT : ∀ g, vT'.ownBlock = some g → vT.ownBlock = some g ∨ w.heap.size ≤ g) (lV : ∀ g, vV'.ownBlock = some g → vV.ownBlock = some g ∨ w.heap.size ≤ g) (lN : ∀ g, vN'.ownBlock = some g → vN.ownBlock = some g ∨ w.heap.size ≤ g) :
    PrC w' xb S' (fun k => F k ∨ vT'.ownBlock = some k ∨ vV'.ownBlock = some k ∨ vN'.ownBlock = some k) gS cs vT' vV' vN' RR Fs T ∧ Stp w w' F (fun k => F k ∨ vT'.ownBlock = some k ∨ vV'.ownBlock = some k ∨ vN'.ownBlock = some k) := by
  have hgx : gS ≠ xb := by
    intro hh
    have h1 := h.stB
    rw [hh, h.blk] at h1
    simp only [Option.some.injEq, Obj.cells.injEq] at h1
    exact absurd h1.2.1 (by decide)
  have hgG : ¬ G gS := fun hh => by
    rcases hG gS hh with hh | hh | hh | hh
    · exact hgx hh
    · exact own_apart_blk h.rT h.stB (by decide) hh
    · exact own_apart_blk h.rV h.stB (by decide) hh
    · exact own_apart_blk h.rN h.stB (by decide) hh
  have hsz := ho.size
  refine ⟨⟨hblk, (ho.block gS (h.flt gS h.fg) hgG).trans h.stB, ?_, rT, rV, rN, h.dis, ?_, .inl h.fx, .inl h.fg, fun g hg => .inr (.inl hg), fun g hg => .inr (.inr (.inl hg)), fun g hg => .inr (.inr (.inr hg)), ?_⟩, ⟨ho.mono ?_, ?_⟩⟩
  · intro o ho'
    obtain ⟨vE, h1, h2⟩ := h.st o ho'
    refine ⟨vE, h1, h2.only ho (fun k hk hh => ?_)⟩
    obtain ⟨_, _, s3, s4, s5, s6⟩ := h.sub o k hk
    rcases hG k hh with hh | hh | hh | hh
    · exact s3 hh
    · exact s4 hh
    · exact s5 hh
    · exact s6 hh
  · intro o k hk
    obtain ⟨s1, s2, s3, s4, s5, s6⟩ := h.sub o k hk
    have hlt := h.flt k s1
    exact ⟨.inl s1, s2, s3, fun hh => (lT k hh).elim s4 (fun hh => by omega), fun hh => (lV k hh).elim s5 (fun hh => by omega), fun hh => (lN k hh).elim s6 (fun hh => by omega)⟩
  · intro k hk
    rcases hk with hk | hk | hk | hk
    · have := h.flt k hk; omega
    · exact (rT.lt k hk).2
    · exact (rV.lt k hk).2
    · exact (rN.lt k hk).2
  · intro k _ hk
    rcases hG k hk with rfl | hk | hk | hk
    · exact h.fx
    · exact h.fT k hk
    · exact h.fV k hk
    · exact h.fN k hk
  · intro k hk
    rcases hk with hk | hk | hk | hk
    · exact .inl hk
    · exact (lT k hk).imp (h.fT k) id
    · exact (lV k hk).imp (h.fV k) id
    · exact (lN k hk).imp (h.fN k) id
/-- One replica changes. -/
theorem PrC.store {w w' : World} {xb : Nat} {S : Cl} {F : Nat → Prop} {gS : Nat} {cs : Array Value} {vT vV vN : Value} {RR : Nat → List PE} {Fs : Nat → Nat → Prop} {T : Nat → Int} (h : PrC w xb S F gS cs vT vV vN RR Fs T) (o : Nat) (v2 : Value) (R' : List PE) (t' : Int) (ho : Only (fun q => q = gS ∨ Fs o q) w w')
    (hcell : w'.heap[gS]? = some (.cells (cs.setIfInBounds o v2) 122 (0, 0))) (his : StIs w' v2 R' t' (Grew (Fs o) w w')) :
    PrC w' xb S (Grew F w w') gS (cs.setIfInBounds o v2) vT vV vN (fun j => if j = o then R' else RR j) (fun j => if j = o then Grew (Fs o) w w' else Fs j) (fun j => if j = o then t' else T j) ∧ Stp w w' F (Grew F w w') := by
  have hgx : gS ≠ xb := by
    intro hh
    have h1 := h.stB
    rw [hh, h.blk] at h1
    simp only [Option.some.injEq, Obj.cells.injEq] at h1
    exact absurd h1.2.1 (by decide)
  have hsz := ho.size
  have hN : ∀ k, (k = gS ∨ Fs o k) → k ≠ xb ∧ vT.ownBlock ≠ some k ∧ vV.ownBlock ≠ some k ∧ vN.ownBlock ≠ some k := by
    intro k hk
    rcases hk with rfl | hk
    · exact ⟨hgx, own_apart_blk h.rT h.stB (by decide), own_apart_blk h.rV h.stB (by decide), own_apart_blk h.rN h.stB (by decide)⟩
    · obtain ⟨_, _, s3, s4, s5, s6⟩ := h.sub o k hk
      exact ⟨s3, s4, s5, s6⟩
  have hss : (cs.setIfInBounds o v2).size = cs.size := Array.size_setIfInBounds
  refine ⟨⟨?_, hcell, ?_, own_only h.rT ho (fun g hg hh => (hN g hh).2.1 hg), own_only h.rV ho (fun g hg hh => (hN g hh).2.2.1 hg), own_only h.rN ho (fun g hg hh => (hN g hh).2.2.2 hg), ?_, ?_, .inl h.fx, .inl h.fg, fun g hg => .inl (h.fT g hg), fun g hg => .inl (h.fV g hg), fun g hg => .inl (h.fN g hg), ?_⟩, ⟨ho.mono ?_, fun k hk => hk.imp id (fun hk => hk.1)⟩⟩
  · rw [hss]
    exact (ho.block xb (h.flt xb h.fx) (fun hh => (hN xb hh).1 rfl)).trans h.blk
  · intro j hj
    rw [hss] at hj
    by_cases hjo : j = o
    · subst hjo
      exact ⟨v2, by simp [hj], by simp only [if_true]; exact his⟩
    · obtain ⟨vE, h1, h2⟩ := h.st j hj
      refine ⟨vE, by rw [Array.getElem?_setIfInBounds_ne (fun hh => hjo hh.symm)]; exact h1, ?_⟩
      simp only [if_neg hjo]
      refine h2.only ho (fun k hk hh => ?_)
      rcases hh with hh | hh
      · exact (h.sub j k hk).2.1 hh
      · exact h.dis j o hjo k hk hh
  · intro a b hab k ha hb
    by_cases h1 : a = o
    · subst h1
      simp only [if_true, if_neg (fun hh : b = a => hab hh.symm)] at ha hb
      rcases ha with ha | ha
      · exact h.dis a b hab k ha hb
      · have := h.flt k (h.sub b k hb).1
        omega
    · simp only [if_neg h1] at ha
      by_cases h2 : b = o
      · subst h2
        simp only [if_true] at hb
        rcases hb with hb | hb
        · exact h.dis a b hab k ha hb
        · have := h.flt k (h.sub a k ha).1
          omega
      · simp only [if_neg h2] at hb
        exact h.dis a b hab k ha hb
  · intro a k ha
    by_cases h1 : a = o
    · subst h1
      simp only [if_true] at ha
      rcases ha with ha | ha
      · obtain ⟨s1, s2⟩ := h.sub a k ha
        exact ⟨.inl s1, s2⟩
      · refine ⟨.inr ha, ?_, ?_, ?_, ?_, ?_⟩
        · intro hh; have := h.flt gS h.fg; omega
        · intro hh; have := h.flt xb h.fx; omega
        · intro hh; have := h.flt k (h.fT k hh); omega
        · intro hh; have := h.flt k (h.fV k hh); omega
        · intro hh; have := h.flt k (h.fN k hh); omega
    · simp only [if_neg h1] at ha
      obtain ⟨s1, s2⟩ := h.sub a k ha
      exact ⟨.inl s1, s2⟩
  · intro k hk
    rcases hk with hk | hk
    · have := h.flt k hk; omega
    · exact hk.2
  · intro k _ hk
    rcases hk with rfl | hk
    · exact h.fg
    · exact (h.sub o k hk).1

end Go.Proofs.YtajphdppmdoalaaGreat

namespace Go.Proofs.YtajphdppmdoalaaGreat
open Go.RowKit
set_option linter.unusedVariables false

theorem PrC.lt {w : World} {xb : Nat} {S : Cl} {F : Nat → Prop} {gS : Nat} {cs : Array Value} {vT vV vN : Value} {RR : Nat → List PE} {Fs : Nat → Nat → Prop} {T : Nat → Int} (h : PrC w xb S F gS cs vT vV vN RR Fs T) : xb < w.heap.size := h.flt xb h.fx
/-- Events are appended. -/
theorem PrC.addV {w w2 : World} {xb : Nat} {S : Cl} {F : Nat → Prop} {gS : Nat} {cs : Array Value} {vT vV vN vV' : Value} {RR : Nat → List PE} {Fs : Nat → Nat → Prop} {T : Nat → Int} (h : PrC w xb S F gS cs vT vV vN RR Fs T) (ho : Only (fun k => vV.ownBlock = some k) w w2) (E : List Ev)
    (hrow : w2.ownsRow 0 60 3 vV' (S.evs ++ E).length ((S.evs ++ E).flatMap Ev.cells)) (lV : ∀ g, vV'.ownBlock = some g → vV.ownBlock = some g ∨ w.heap.size ≤ g) :
    ∃ F', PrC (w2.setCell ⟨xb, 4, none⟩ vV') xb { S with evs := S.evs ++ E } F' gS cs vT vV' vN RR Fs T ∧ Stp w (w2.setCell ⟨xb, 4, none⟩ vV') F F' := by
  have hbx : w2.heap[xb]? = _ := (ho.block xb h.lt (own_apart_blk h.rV h.blk (by decide))).trans h.blk
  have hb2 := row_setCell (j := 4) hbx vV'
  have hT2 := own_only h.rT ho (fun g hg hh => own_apart' h.rT h.rV (by decide) hg hh)
  have hN2 := own_only h.rN ho (fun g hg hh => own_apart' h.rN h.rV (by decide) hg hh)
  have ho2 : Only (fun k => k = xb ∨ vV.ownBlock = some k) w (w2.setCell ⟨xb, 4, none⟩ vV') := (ho.mono (fun k _ hk => .inr hk)).setCell (fun _ => .inl rfl) _
  obtain ⟨h1, h2⟩ := h.upd ho2 (fun k hk => hk.elim .inl (fun hk => .inr (.inr (.inl hk)))) { S with evs := S.evs ++ E } vT vV' vN (by simpa using hb2) (own_set' hT2 hbx (by decide) _) (own_set' hrow hbx (by decide) _) (own_set' hN2 hbx (by decide) _) (fun g hg => .inl hg) lV (fun g hg => .inl hg)
  exact ⟨_, h1, h2⟩

set_option maxRecDepth 100000 in
set_option maxHeartbeats 1600000 in
theorem tell_any (xb : Nat) (S : Cl) (F : Nat → Prop) (gS : Nat) (cs : Array Value) (vT vV vN : Value) (RR : Nat → List PE) (Fs : Nat → Nat → Prop) (T : Nat → Int) (seq : Nat) (f whr : Int) (w : World) (h : PrC w xb S F gS cs vT vV vN RR Fs T) (hn : S.evs.length ≤ 2000000000000) :
    Calls Tryz.prog 71 #[.pointer (some ⟨xb, 0, none⟩), .int .i64 seq, .int .u8 f, .int .u8 whr] w fun e w' => e = .returned (.tuple #[]) ∧ ∃ F' vV', PrC w' xb (toldM S seq f whr) F' gS cs vT vV' vN RR Fs T ∧ Stp w w' F F' := by
  obtain ⟨i0, hi, hz0, hz1, hz2⟩ := info_parts Tryz.infoEv
  have HH := hide h
  have hyb := h.lt
  have cV : w.cell? ⟨xb, 4, none⟩ = some vV := arr_cell h.blk 4
  have cF : ∀ j, w.frozen? ⟨xb, j, none⟩ = false := fun j => arr_frozen h.blk j
  clear h
  go_enter Tryz.func71, Tryz.ntmps71
  go_wp2_with (at_builtin; refine wpList_append_at _ rfl (.tmp 12) (.tmp 17) 57 rfl 60 i0 _ 3 16 Tryz.underlying57 hi hz0 hz1 hz2 rfl (by decide) _ _ _ rfl (HH.out.rV.alloc _) ⟨w.heap.size, 0, none⟩ 1 1 (by decide) [.int .i64 seq, .int .u8 f, .int .u8 whr] rfl rfl (cells_new _ _ _) (by simp [Value.oneCell']) (by unfold maxLen; omega) (by omega) ?_)
  intro g c w2 hown hgrow hwhere hkeep
  have ho : Only (fun k => vV.ownBlock = some k) w w2 := ((Only.refl _ _).alloc _).grown hgrow (fun k _ hk => hk)
  have hev : S.evs.flatMap Ev.cells ++ [.int .i64 seq, .int .u8 f, .int .u8 whr] = (S.evs ++ [(⟨seq, f, whr⟩ : Ev)]).flatMap Ev.cells := by simp [Ev.cells]
  rw [hev] at hown
  have R := HH.out.addV ho [⟨seq, f, whr⟩] (by rw [List.length_append]; exact hown) (by
    intro q hq
    simp only [Value.ownBlock, Option.some.injEq] at hq
    subst hq
    rcases hwhere with h1 | h1
    · exact .inl h1
    · exact .inr (by have : w.heap.size ≤ (w.alloc (.cells #[.int .i64 seq, .int .u8 f, .int .u8 whr] 60)).heap.size := by simp
                     omega))
  have HR := hide R
  have hyb2 : xb < w2.heap.size := Nat.lt_of_lt_of_le hyb ho.size
  have hb2 := (ho.block xb hyb (own_apart_blk HH.out.rV HH.out.blk (by decide))).trans HH.out.blk
  have cF2 : ∀ j, w2.frozen? ⟨xb, j, none⟩ = false := fun j => arr_frozen hb2 j
  have cV2 : w2.cell? ⟨xb, 4, none⟩ = some vV := arr_cell hb2 4
  clear R hown hgrow hkeep hwhere hev ho hb2
  go_wp2
  go_end0
  obtain ⟨F', h1, h2⟩ := HR.out
  exact ⟨rfl, F', _, h1, h2⟩

theorem mod31 (h : Int) (h0 : 0 ≤ h) : ∃ r : Nat, h % 31 = (r : Int) ∧ r < 31 ∧ r = h.toNat % 31 ∧ (r : Int) < 31 := ⟨h.toNat % 31, by omega, Nat.mod_lt _ (by decide), rfl, by omega⟩

set_option maxRecDepth 100000 in
set_option maxHeartbeats 1600000 in
theorem choose_any (xb : Nat) (S : Cl) (F : Nat → Prop) (gS : Nat) (cs : Array Value) (vT vV vN : Value) (RR : Nat → List PE) (Fs : Nat → Nat → Prop) (T : Nat → Int) (src dst proto id off : Int) (more : Bool) (sport dport : Int) (ao : Option Addr) (n cap : Nat) (w : World) (h : PrC w xb S F gS cs vT vV vN RR Fs T) (hs : S.slots = [] ∨ S.slots.length = 31) (hsrc0 : 0 ≤ src) (hsrc : src ≤ 65535) (hdst0 : 0 ≤ dst) (hdst : dst ≤ 65535) (hproto0 : 0 ≤ proto) (hproto : proto ≤ 255) (hid0 : 0 ≤ id) (hid : id ≤ 65535) (hoff0 : 0 ≤ off) (hoff : off ≤ 255) (hsport0 : 0 ≤ sport) (hsport : sport ≤ 65535) (hdport0 : 0 ≤ dport) (hdport : dport ≤ 65535) :
    Calls Tryz.prog 48 #[.pointer (some ⟨xb, 0, none⟩), .agg #[.int .u16 src, .int .u16 dst, .int .u8 proto, .int .u16 id, .int .u8 off, .bool more, .int .u16 sport, .int .u16 dport, .slice ao n cap]] w fun e w' => e = .returned (.tuple #[.int .u8 (S.slots.getD ((flH src dst proto sport dport).toNat % 31) 0), .int .i64 (if (!S.slots.isEmpty) = true then 0 else 7)]) ∧ Below w.heap.size w w' := by
  have HFL := hide (fun w => flow_any src dst proto id off more sport dport ao n cap w hsrc0 hsrc hdst0 hdst hproto0 hproto hid0 hid hoff0 hoff hsport0 hsport hdport0 hdport)
  have HH := hide h
  have hxw := h.lt
  have hfb : 0 ≤ flH src dst proto sport dport ∧ flH src dst proto sport dport ≤ 4294967295 := hsh_bd _
  generalize flH src dst proto sport dport = hh at *
  obtain ⟨r, hr, hr31, hre, hri⟩ := mod31 hh hfb.1
  rw [← hre]
  clear hre
  rcases hs with hs | hs
  · have cT : w.cell? ⟨xb, 2, none⟩ = some (.slice none 0 0) ∨ ∃ g c, w.cell? ⟨xb, 2, none⟩ = some (.slice g 0 c) := by
      have h1 := arr_cell h.blk 2
      obtain ⟨a0, c0, hv⟩ := own_slice h.rT
      rw [hs] at hv
      exact .inr ⟨a0, c0, by rw [h1, hv]; rfl⟩
    have cT' : ∃ g c, w.cell? ⟨xb, 2, none⟩ = some (.slice g 0 c) := cT.elim (fun h => ⟨none, 0, h⟩) (fun h => h)
    obtain ⟨a0, c0, cT⟩ := cT'
    have HR : Hid (S.slots.getD r 0 = 0 ∧ (if (!S.slots.isEmpty) = true then (0 : Int) else 7) = 7) := by rw [hs]; exact ⟨rfl, rfl⟩
    generalize S.slots.getD r 0 = b at *
    generalize (if (!S.slots.isEmpty) = true then (0 : Int) else 7) = ec at *
    obtain ⟨h1, h2⟩ := HR.out
    subst h1 h2
    clear h hs HH
    go_enter Tryz.func48, Tryz.ntmps48
    go_wp2_with fail
    refine (HFL.out _).mono ?_
    rintro e w1 ⟨rfl, hb1⟩
    have HB1 : Hid (Below w.heap.size w w1) := ((Below.refl _ _).alloc (Nat.le_refl _) _).trans (hb1.mono (by simp))
    have c1 := (HB1.out.cell (p := ⟨xb, 2, none⟩) hxw).trans cT
    have hx1 : xb < w1.heap.size := Nat.lt_of_lt_of_le hxw HB1.out.size
    clear hb1
    go_wp2
    go_ret2
    exact ⟨rfl, HB1.out⟩
  · obtain ⟨gs, c0, hv⟩ := own_some h.rT (by omega)
    rw [hs] at hv
    have cT : w.cell? ⟨xb, 2, none⟩ = some (.slice (some ⟨gs, 0, none⟩) 31 c0) := by rw [← hv]; exact arr_cell h.blk 2
    have hrow := h.rT
    rw [hs, hv] at hrow
    have hgs : gs < w.heap.size := (hrow.lt gs rfl).2
    have c8 : w.cell? ⟨gs, r, none⟩ = some (.int .u8 (S.slots.getD r 0)) := by
      rw [hrow.cellAt r (by omega), List.getElem?_map, List.getElem?_eq_getElem (by omega), List.getD_eq_getElem?_getD, List.getElem?_eq_getElem (by omega)]
      rfl
    have hne : (if (!S.slots.isEmpty) = true then (0 : Int) else 7) = 0 := by
      cases hl : S.slots with
      | nil => rw [hl] at hs; simp at hs
      | cons a l => rfl
    rw [hne]
    generalize S.slots.getD r 0 = b at *
    clear h hs HH hne hrow hv
    go_enter Tryz.func48, Tryz.ntmps48
    go_wp2_with fail
    refine (HFL.out _).mono ?_
    rintro e w1 ⟨rfl, hb1⟩
    have HB1 : Hid (Below w.heap.size w w1) := ((Below.refl _ _).alloc (Nat.le_refl _) _).trans (hb1.mono (by simp))
    have c1 := (HB1.out.cell (p := ⟨xb, 2, none⟩) hxw).trans cT
    have c2 := (HB1.out.cell (p := ⟨gs, r, none⟩) hgs).trans c8
    have hx1 : xb < w1.heap.size := Nat.lt_of_lt_of_le hxw HB1.out.size
    have hg1 : gs < w1.heap.size := Nat.lt_of_lt_of_le hgs HB1.out.size
    clear hb1
    go_wp2
    go_ret2
    exact ⟨rfl, HB1.out⟩

set_option maxRecDepth 100000 in
set_option maxHeartbeats 1600000 in
theorem owner_any (xb : Nat) (S : Cl) (F : Nat → Prop) (gS : Nat) (cs : Array Value) (vT vV vN : Value) (RR : Nat → List PE) (Fs : Nat → Nat → Prop) (T : Nat → Int) (src dst proto id off : Int) (more : Bool) (sport dport : Int) (ao : Option Addr) (n cap : Nat) (w : World) (h : PrC w xb S F gS cs vT vV vN RR Fs T) (hn1 : 1 ≤ cs.size) (hn5 : cs.size ≤ 5) (hsrc0 : 0 ≤ src) (hsrc : src ≤ 65535) (hdst0 : 0 ≤ dst) (hdst : dst ≤ 65535) (hproto0 : 0 ≤ proto) (hproto : proto ≤ 255) (hid0 : 0 ≤ id) (hid : id ≤ 65535) (hoff0 : 0 ≤ off) (hoff : off ≤ 255) (hsport0 : 0 ≤ sport) (hsport : sport ≤ 65535) (hdport0 : 0 ≤ dport) (hdport : dport ≤ 65535) :
    Calls Tryz.prog 50 #[.pointer (some ⟨xb, 0, none⟩), .agg #[.int .u16 src, .int .u16 dst, .int .u8 proto, .int .u16 id, .int .u8 off, .bool more, .int .u16 sport, .int .u16 dport, .slice ao n cap]] w fun e w' => e = .returned (.int .i64 (dgH src dst proto id % (cs.size : Int))) ∧ Below w.heap.size w w' := by
  have HDG := hide (fun w => datagram_any src dst proto id off more sport dport ao n cap w hsrc0 hsrc hdst0 hdst hproto0 hproto hid0 hid hoff0 hoff hsport0 hsport hdport0 hdport)
  have hxw := h.lt
  have cS : w.cell? ⟨xb, 0, none⟩ = some (.slice (some ⟨gS, 0, none⟩) cs.size cs.size) := arr_cell h.blk 0
  have hfb : 0 ≤ dgH src dst proto id ∧ dgH src dst proto id ≤ 4294967295 := hsh_bd _
  generalize dgH src dst proto id = hh at *
  generalize cs.size = N at *
  have hN0 : ((N : Int) == 0) = false := by rw [beq_eq_false_iff_ne]; omega
  have hmb : 0 ≤ hh % (N : Int) ∧ hh % (N : Int) < (N : Int) := ⟨Int.emod_nonneg _ (by omega), Int.emod_lt_of_pos _ (by omega)⟩
  clear h
  go_enter Tryz.func50, Tryz.ntmps50
  go_wp2_with fail
  refine (HDG.out _).mono ?_
  rintro e w1 ⟨rfl, hb1⟩
  have HB1 : Hid (Below w.heap.size w w1) := ((Below.refl _ _).alloc (Nat.le_refl _) _).trans (hb1.mono (by simp))
  clear hb1
  go_wp2
  go_ret
  exact ⟨rfl, HB1.out⟩

/-- Without its list of events. -/
theorem PrC.taken {w : World} {xb : Nat} {S : Cl} {F : Nat → Prop} {gS : Nat} {cs : Array Value} {vT vV vN : Value} {RR : Nat → List PE} {Fs : Nat → Nat → Prop} {T : Nat → Int} (h : PrC w xb S F gS cs vT vV vN RR Fs T) :
    PrC (w.setCell ⟨xb, 4, none⟩ (.slice none 0 0)) xb (takeM S) (fun k => F k ∧ vV.ownBlock ≠ some k) gS cs vT (.slice none 0 0) vN RR Fs T ∧ Stp w (w.setCell ⟨xb, 4, none⟩ (.slice none 0 0)) F (fun k => F k ∧ vV.ownBlock ≠ some k) ∧ (w.setCell ⟨xb, 4, none⟩ (.slice none 0 0)).ownsRow 0 60 3 vV S.evs.length (S.evs.flatMap Ev.cells) := by
  have ho : Only (fun k => k = xb) w (w.setCell ⟨xb, 4, none⟩ (.slice none 0 0)) := (Only.refl (fun k => k = xb) w).setG
  have hb2 := row_setCell (j := 4) h.blk (.slice none 0 0)
  obtain ⟨h1, h2⟩ := h.upd ho (fun k hk => .inl hk) (takeM S) vT (.slice none 0 0) vN (by simpa [takeM] using hb2) (own_set' h.rT h.blk (by decide) _) (World.ownsRow_nil _ _ _ _) (own_set' h.rN h.blk (by decide) _) (fun g hg => .inl hg) (fun g hg => by simp [Value.ownBlock] at hg) (fun g hg => .inl hg)
  have hvx : vV.ownBlock ≠ some xb := own_apart_blk h.rV h.blk (by decide)
  have hvg : vV.ownBlock ≠ some gS := own_apart_blk h.rV h.stB (by decide)
  refine ⟨⟨h1.blk, h1.stB, h1.st, h1.rT, h1.rV, h1.rN, h1.dis, ?_, ⟨h.fx, hvx⟩, ⟨h.fg, hvg⟩, fun g hg => ⟨h.fT g hg, fun hh => own_apart' h.rT h.rV (by decide) hg hh⟩, by simp [Value.ownBlock], fun g hg => ⟨h.fN g hg, fun hh => own_apart' h.rN h.rV (by decide) hg hh⟩, fun k hk => h1.flt k (.inl hk.1)⟩, ⟨h2.only, fun k hk => .inl hk.1⟩, own_set' h.rV h.blk (by decide) _⟩
  intro o k hk
  obtain ⟨s1, s2, s3, s4, s5, s6⟩ := h.sub o k hk
  exact ⟨⟨s1, s5⟩, s2, s3, s4, by simp [Value.ownBlock], s6⟩

set_option maxRecDepth 100000 in
set_option maxHeartbeats 1600000 in
theorem take_any (xb : Nat) (S : Cl) (F : Nat → Prop) (w : World) (h : PrIs w xb S F) :
    Calls Tryz.prog 42 #[.pointer (some ⟨xb, 0, none⟩)] w fun e w' => ∃ v F', e = .returned v ∧ PrIs w' xb (takeM S) F' ∧ Stp w w' F F' ∧ w'.ownsRow 0 60 3 v S.evs.length (S.evs.flatMap Ev.cells) ∧ (∀ g, v.ownBlock = some g → F g ∧ ¬ F' g) := by
  obtain ⟨gS, cs, vT, vV, vN, RR, Fs, h, hr, he⟩ := h
  have HE := hide (And.intro hr he)
  have HT := hide h.taken
  have HFV := hide h.fV
  have hyb := h.lt
  have cV : w.cell? ⟨xb, 4, none⟩ = some vV := arr_cell h.blk 4
  have cF : ∀ j, w.frozen? ⟨xb, j, none⟩ = false := fun j => arr_frozen h.blk j
  clear h hr he
  go_enter Tryz.func42, Tryz.ntmps42
  go_wp2
  go_ret
  exact ⟨_, _, rfl, ⟨gS, cs, vT, _, vN, RR, Fs, HT.out.1, HE.out.1, HE.out.2⟩, HT.out.2.1, HT.out.2.2, fun g hg => ⟨HFV.out g hg, fun hk => hk.2 hg⟩⟩

end Go.Proofs.YtajphdppmdoalaaGreat

namespace Go.Proofs.YtajphdppmdoalaaGreat
open Go.RowKit
set_option linter.unusedVariables false

/-- The entries of a replica, as they come about. -/
theorem few_of (S : Cl) (hs : Sml S) (o : Int) (R : List PE) (hR : R.map PE.e = entsM S o) : PFew R ∧ (∀ r ∈ R, EOK r.e) ∧ R.length ≤ 3 ∧ (∀ r ∈ R, r.e.pcs.length ≤ 900) ∧ (∀ r ∈ R, 0 ≤ S.now - r.e.born ∧ S.now - r.e.born ≤ 2000000000000) := by
  have hm : ∀ r ∈ R, r.e ∈ S.ents := by
    intro r hr
    have : r.e ∈ R.map PE.e := List.mem_map_of_mem hr
    rw [hR, entsM] at this
    exact (List.mem_filter.1 this).1
  have hl : R.length ≤ 3 := by
    have h1 := hs.cok.few o
    rw [← hR, List.length_map] at h1
    exact h1
  have hk : ∀ r ∈ R, EOK r.e := fun r hr => (hs.cok.ents _ (hm r hr)).1
  have h9 : ∀ r ∈ R, r.e.pcs.length ≤ 92 := fun r hr => pcs_few _ (hk r hr) (hs.ents _ (hm r hr)).pcs
  have hn := hs.now
  refine ⟨⟨by omega, fun r hr => ⟨Nat.le_trans (h9 r hr) (by omega), fun q hq => ?_⟩⟩, hk, hl, fun r hr => Nat.le_trans (h9 r hr) (by omega), fun r hr => ?_⟩
  · have h1 := (hk r hr).pos q hq
    have h2 := (hs.ents _ (hm r hr)).pcs q hq
    omega
  · have h1 := (hs.ents _ (hm r hr)).born
    omega

end Go.Proofs.YtajphdppmdoalaaGreat

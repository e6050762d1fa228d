import Derived.Test.YtajphdppmdoalabZOLtoPD
import Derived.Test.YtajphdppmdoalabZJ1toLO
namespace Go.Proofs.Ytajphdppmdoalab
open Go.RowKit
set_option linter.unusedVariables false

/-- A cluster that was begun behind the world w0 reads as S; the blocks G are none of its own. -/
structure At (w0 : World) (G : Nat → Prop) (xb : Nat) (S : Cl) (w : World) : Prop where
  cl : ∃ F, PrIs w xb S F ∧ ∀ k, F k → w0.heap.size ≤ k ∧ ¬ G k
  lt : ∀ k, G k → k < w.heap.size
  bel : Below w0.heap.size w0 w
/-- The blocks G are as they were. -/
def Kp (G : Nat → Prop) (w w' : World) : Prop := Only (fun k => ¬ G k) w w'
theorem Kp.refl (G : Nat → Prop) (w : World) : Kp G w w := Only.refl _ _
theorem Kp.trans {G : Nat → Prop} {a b c : World} (h : Kp G a b) (k : Kp G b c) : Kp G a c := Only.trans h k (fun _ _ h => h)
theorem Kp.below {G : Nat → Prop} {w w' : World} (h : Below w.heap.size w w') : Kp G w w' := Only.of_below h
theorem Kp.cell {G : Nat → Prop} {w w' : World} (h : Kp G w w') {p : Addr} (hp : p.block < w.heap.size) (hn : G p.block) : w'.cell? p = w.cell? p := Only.cell h hp (fun hh => hh hn)
theorem Kp.less {G G' : Nat → Prop} {w w' : World} (h : Kp G w w') (hg : ∀ k, G' k → G k) : Kp G' w w' := Only.mono h (fun k _ hn hg' => hn (hg k hg'))
theorem At.go {w0 w w' : World} {G F F' : Nat → Prop} {xb : Nat} {S' : Cl} (hF : ∀ k, F k → w0.heap.size ≤ k ∧ ¬ G k) (hl : ∀ k, G k → k < w.heap.size) (hb : Below w0.heap.size w0 w) (hp : PrIs w' xb S' F') (hs : Stp w w' F F') : At w0 G xb S' w' ∧ Kp G w w' := by
  refine ⟨⟨⟨F', hp, fun k hk => ?_⟩, fun k hk => Nat.lt_of_lt_of_le (hl k hk) hs.only.size, hb.trans (hs.only.to_below hb.size (fun k hk => (hF k hk).1))⟩, hs.only.mono (fun k _ hk => (hF k hk).2)⟩
  rcases hs.own k hk with h | h
  · exact hF k h
  · exact ⟨Nat.le_trans hb.size h, fun hg => by have := hl k hg; omega⟩
theorem At.below {w0 w w' : World} {G : Nat → Prop} {xb : Nat} {S : Cl} (h : At w0 G xb S w) (hb : Below w.heap.size w w') : At w0 G xb S w' := by
  obtain ⟨F, hp, hF⟩ := h.cl
  exact ⟨⟨F, hp.below hb, hF⟩, fun k hk => Nat.lt_of_lt_of_le (h.lt k hk) hb.size, h.bel.trans (hb.mono h.bel.size)⟩
/-- Blocks that are new behind a world in which the cluster stood are none of its own. -/
theorem At.plus {w0 w w' : World} {G : Nat → Prop} {xb : Nat} {S : Cl} (h : At w0 G xb S w) (hb : Below w.heap.size w w') (g : Nat) (h1 : w.heap.size ≤ g) (h2 : g < w'.heap.size) : At w0 (fun k => G k ∨ k = g) xb S w' := by
  obtain ⟨F, hp, hF⟩ := h.cl
  have hflt : ∀ k, F k → k < w.heap.size := by
    obtain ⟨gS, cs, vT, vV, vN, RR, Fs, h1, _⟩ := hp
    exact h1.flt
  refine ⟨⟨F, hp.below hb, fun k hk => ⟨(hF k hk).1, fun hg => ?_⟩⟩, fun k hk => ?_, h.bel.trans (hb.mono h.bel.size)⟩
  · rcases hg with hg | rfl
    · exact (hF k hk).2 hg
    · have := hflt k hk
      omega
  · rcases hk with hk | rfl
    · exact Nat.lt_of_lt_of_le (h.lt k hk) hb.size
    · exact h2
theorem At.less {w0 w : World} {G G' : Nat → Prop} {xb : Nat} {S : Cl} (h : At w0 G xb S w) (hg : ∀ k, G' k → G k) : At w0 G' xb S w := by
  obtain ⟨F, hp, hF⟩ := h.cl
  exact ⟨⟨F, hp, fun k hk => ⟨(hF k hk).1, fun hk' => (hF k hk).2 (hg k hk')⟩⟩, fun k hk => h.lt k (hg k hk), h.bel⟩
/-- A block of G that came behind w0 may be written. -/
theorem At.set {w0 w : World} {G : Nat → Prop} {xb : Nat} {S : Cl} (h : At w0 G xb S w) (p : Addr) (hg : G p.block) (h0 : w0.heap.size ≤ p.block) (u : Value) : At w0 G xb S (w.setCell p u) := by
  obtain ⟨F, hp, hF⟩ := h.cl
  have ho : Only (fun k => k = p.block) w (w.setCell p u) := (Only.refl (fun k => k = p.block) w).setCell (fun _ => rfl) u
  exact ⟨⟨F, hp.only ho (fun k hk e => (hF k hk).2 (by rw [e]; exact hg)), hF⟩, fun k hk => Nat.lt_of_lt_of_le (h.lt k hk) ho.size, h.bel.setCell h0 u⟩
theorem At.reps {w0 w : World} {G : Nat → Prop} {xb : Nat} {S : Cl} (h : At w0 G xb S w) : xb < w.heap.size := by
  obtain ⟨F, hp, hF⟩ := h.cl
  obtain ⟨gS, cs, vT, vV, vN, RR, Fs, h1, _⟩ := hp
  exact h1.lt

theorem at_begun (N : Nat) (life : Int) (zs : List Int) (ao : Option Addr) (n cap : Nat) (w0 w : World) (h0 : Below w0.heap.size w0 w) (hN1 : 1 ≤ N) (hN5 : N ≤ 5) (hl1 : 1 ≤ life) (hl2 : life ≤ 20) (hl : zs.length = n) (hd : Has w ao zs) (hn : n ≤ 6) (hz : ∀ z ∈ zs, 0 ≤ z ∧ z ≤ 255) (ht : tE zs ≠ 1) :
    Calls Try.prog 6 #[.int .i64 N, .int .i64 life, .slice ao n cap] w fun e w' => ∃ xb, e = .returned (.pointer (some ⟨xb, 0, none⟩)) ∧ At w0 (fun k => k < w.heap.size) xb (backM (Cl.new N life) (tblOf zs)) w' ∧ Below w.heap.size w w' := by
  refine (begun_any N life zs ao n cap w hN1 hN5 hl1 hl2 hl hd hn hz ht).mono ?_
  rintro e w' ⟨xb, F, rfl, h1, h2, h3⟩
  exact ⟨xb, rfl, ⟨⟨F, h1, fun k hk => ⟨Nat.le_trans h0.size (h2 k hk), by have := h2 k hk; omega⟩⟩, fun k hk => Nat.lt_of_lt_of_le hk h3.size, h0.trans (h3.mono h0.size)⟩, h3⟩
theorem at_held (xb k : Nat) (S : Cl) (G : Nat → Prop) (w0 w : World) (h : At w0 G xb S w) (hs : Sml S) (hk : (k : Int) < S.reps) :
    Calls Try.prog 12 #[.pointer (some ⟨xb, 0, none⟩), .int .i64 k] w fun e w' => e = .returned (.tuple #[.agg #[.int .i64 (entsM S k).length, .int .i64 (heldN S k), .int .i64 (heldB S k)], .int .i64 0]) ∧ At w0 G xb S w' ∧ Below w.heap.size w w' := by
  obtain ⟨F, hp, hF⟩ := h.cl
  refine (held_yes xb k S F w hp hs hk).mono ?_
  rintro e w' ⟨rfl, hb⟩
  exact ⟨rfl, h.below hb, hb⟩
theorem at_take (xb : Nat) (S : Cl) (G : Nat → Prop) (w0 w : World) (h : At w0 G xb S w) :
    Calls Try.prog 13 #[.pointer (some ⟨xb, 0, none⟩)] w fun e w' => ∃ v, e = .returned v ∧ At w0 (fun k => G k ∨ v.ownBlock = some k) xb (takeM S) w' ∧ Kp G w w' ∧ w'.ownsRow w0.heap.size 49 3 v S.evs.length (S.evs.flatMap Ev.cells) ∧ (∀ g, v.ownBlock = some g → ¬ G g) := by
  obtain ⟨F, hp, hF⟩ := h.cl
  refine (take_any xb S F w hp).mono ?_
  rintro e w' ⟨v, F', rfl, h1, h2, h3, h4⟩
  obtain ⟨h5, h6⟩ := At.go hF h.lt h.bel h1 h2
  have hb : ∀ g, v.ownBlock = some g → w0.heap.size ≤ g ∧ g < w'.heap.size := by
    intro g hg
    refine ⟨(hF g (h4 g hg).1).1, ?_⟩
    obtain ⟨cur, hc⟩ := own_tag' h3 hg
    exact lt_of_block hc
  refine ⟨v, rfl, ⟨⟨F', h1, fun k hk => ?_⟩, fun k hk => ?_, h5.bel⟩, h6, ?_, fun g hg => (hF g (h4 g hg).1).2⟩
  · rcases h2.own k hk with hk' | hk'
    · refine ⟨(hF k hk').1, fun hh => ?_⟩
      rcases hh with hh | hh
      · exact (hF k hk').2 hh
      · exact (h4 k hh).2 hk
    · refine ⟨Nat.le_trans h.bel.size hk', fun hh => ?_⟩
      rcases hh with hh | hh
      · have := h.lt k hh
        omega
      · exact (h4 k hh).2 hk
  · rcases hk with hk | hk
    · exact h5.lt k hk
    · exact (hb k hk).2
  · refine ⟨h3.1, ?_⟩
    rcases h3.2 with h' | ⟨g, cap, cur, hv, hbs, hh, r⟩
    · exact .inl h'
    · exact .inr ⟨g, cap, cur, hv, (hb g (by rw [hv]; rfl)).1, hh, r⟩
theorem at_owner (xb : Nat) (S : Cl) (G : Nat → Prop) (src dst proto id off : Int) (more : Bool) (sport dport : Int) (ao : Option Addr) (n cap : Nat) (w0 w : World) (h : At w0 G xb S w) (hs : Sml S) (hsrc0 : 0 ≤ src) (hsrc : src ≤ 65535) (hdst0 : 0 ≤ dst) (hdst : dst ≤ 65535) (hproto0 : 0 ≤ proto) (hproto : proto ≤ 255) (hid0 : 0 ≤ id) (hid : id ≤ 65535) (hoff0 : 0 ≤ off) (hoff : off ≤ 255) (hsport0 : 0 ≤ sport) (hsport : sport ≤ 65535) (hdport0 : 0 ≤ dport) (hdport : dport ≤ 65535) :
    Calls Try.prog 15 #[.pointer (some ⟨xb, 0, none⟩), .agg #[.int .u16 src, .int .u16 dst, .int .u8 proto, .int .u16 id, .int .u8 off, .bool more, .int .u16 sport, .int .u16 dport, .slice ao n cap]] w fun e w' => e = .returned (.int .i64 (dgH src dst proto id % S.reps)) ∧ At w0 G xb S w' ∧ Below w.heap.size w w' := by
  obtain ⟨F, hp, hF⟩ := h.cl
  obtain ⟨gS, cs, vT, vV, vN, RR, Fs, h1, h2, _⟩ := hp
  refine (owner_any xb S F gS cs vT vV vN RR Fs (fun _ => S.now) src dst proto id off more sport dport ao n cap w h1 (by have := hs.cok.reps; omega) (by have := hs.reps; omega) hsrc0 hsrc hdst0 hdst hproto0 hproto hid0 hid hoff0 hoff hsport0 hsport hdport0 hdport).mono ?_
  rintro e w' ⟨rfl, hb⟩
  exact ⟨by rw [h2], h.below hb, hb⟩
theorem at_choose (xb : Nat) (S : Cl) (G : Nat → Prop) (src dst proto id off : Int) (more : Bool) (sport dport : Int) (ao : Option Addr) (n cap : Nat) (w0 w : World) (h : At w0 G xb S w) (hs : S.slots.length = 31) (hsrc0 : 0 ≤ src) (hsrc : src ≤ 65535) (hdst0 : 0 ≤ dst) (hdst : dst ≤ 65535) (hproto0 : 0 ≤ proto) (hproto : proto ≤ 255) (hid0 : 0 ≤ id) (hid : id ≤ 65535) (hoff0 : 0 ≤ off) (hoff : off ≤ 255) (hsport0 : 0 ≤ sport) (hsport : sport ≤ 65535) (hdport0 : 0 ≤ dport) (hdport : dport ≤ 65535) :
    Calls Try.prog 8 #[.pointer (some ⟨xb, 0, none⟩), .agg #[.int .u16 src, .int .u16 dst, .int .u8 proto, .int .u16 id, .int .u8 off, .bool more, .int .u16 sport, .int .u16 dport, .slice ao n cap]] w fun e w' => e = .returned (.tuple #[.int .u8 (S.slots.getD ((flH src dst proto sport dport).toNat % 31) 0), .int .i64 0]) ∧ At w0 G xb S w' ∧ Below w.heap.size w w' := by
  obtain ⟨F, hp, hF⟩ := h.cl
  obtain ⟨gS, cs, vT, vV, vN, RR, Fs, h1, h2, _⟩ := hp
  refine (choose_any xb S F gS cs vT vV vN RR Fs (fun _ => S.now) src dst proto id off more sport dport ao n cap w h1 (.inr hs) hsrc0 hsrc hdst0 hdst hproto0 hproto hid0 hid hoff0 hoff hsport0 hsport hdport0 hdport).mono ?_
  rintro e w' ⟨rfl, hb⟩
  refine ⟨?_, h.below hb, hb⟩
  have : (!S.slots.isEmpty) = true := by cases hh : S.slots with | nil => rw [hh] at hs; cases hs | cons a l => rfl
  rw [if_pos this]
theorem at_arrive (xb : Nat) (S : Cl) (G : Nat → Prop) (rep : Int) (zs : List Int) (g n cap : Nat) (w0 w : World) (h : At w0 G xb S w) (hs : Sml S) (hu : Uq S.ents) (hnx : S.next ≤ 1900000000000) (hr0 : 0 ≤ rep) (hr1 : rep < S.reps)
    (hl : zs.length = n) (hcap : n ≤ cap) (hcm : cap ≤ maxLen) (hd : Has w (some ⟨g, 0, none⟩) zs) (hz : ∀ z ∈ zs, 0 ≤ z ∧ z ≤ 255) (hg : G g) :
    Calls Try.prog 11 #[.pointer (some ⟨xb, 0, none⟩), .int .i64 rep, .slice (some ⟨g, 0, none⟩) n cap] w fun e w' => e = .returned (.tuple #[.int .i64 S.next, .int .i64 0]) ∧ At w0 G xb (arriveM S rep (upK zs)) w' ∧ Kp G w w' := by
  obtain ⟨F, hp, hF⟩ := h.cl
  refine (arrive_any xb S F rep zs (some ⟨g, 0, none⟩) n cap w hp hs hu hnx hr0 hr1 hl hcap hcm hd hz ?_).mono ?_
  · intro ad had hF'
    simp only [Option.some.injEq] at had
    subst had
    exact (hF _ hF').2 hg
  · rintro e w' ⟨rfl, F', h1, h2⟩
    exact ⟨rfl, At.go hF h.lt h.bel h1 h2⟩
theorem at_flying (xb : Nat) (S : Cl) (G : Nat → Prop) (w0 w : World) (h : At w0 G xb S w) (hn : S.sent.length ≤ 2000000000000) :
    Calls Try.prog 17 #[.pointer (some ⟨xb, 0, none⟩)] w fun e w' => ∃ v, e = .returned v ∧ w'.ownsRow w.heap.size 57 3 v S.sent.length (S.sent.flatMap Snt.fly) ∧ At w0 G xb S w' ∧ Below w.heap.size w w' := by
  obtain ⟨F, hp, hF⟩ := h.cl
  refine (flying_any xb S F w hp hn).mono ?_
  rintro e w' ⟨v, rfl, h1, h2⟩
  exact ⟨v, rfl, h1, h.below h2, h2⟩
theorem at_deliver (xb k : Nat) (S : Cl) (G : Nat → Prop) (w0 w : World) (h : At w0 G xb S w) (hg : Good S) (hk : k < S.sent.length) :
    Calls Try.prog 18 #[.pointer (some ⟨xb, 0, none⟩), .int .i64 k] w fun e w' => e = .returned (.int .i64 0) ∧ At w0 G xb (deliverM S k) w' ∧ Kp G w w' := by
  obtain ⟨F, hp, hF⟩ := h.cl
  refine (deliver_yes xb k S F _ w hp hg.sml hg.uq hg.dst (List.getElem?_eq_getElem hk)).mono ?_
  rintro e w' ⟨rfl, F', h1, h2⟩
  exact ⟨rfl, At.go hF h.lt h.bel h1 h2⟩
theorem at_lose (xb k : Nat) (S : Cl) (G : Nat → Prop) (w0 w : World) (h : At w0 G xb S w) (hg : Good S) (hk : k < S.sent.length) :
    Calls Try.prog 16 #[.pointer (some ⟨xb, 0, none⟩), .int .i64 k] w fun e w' => e = .returned (.int .i64 0) ∧ At w0 G xb (loseM S k) w' ∧ Kp G w w' := by
  obtain ⟨F, hp, hF⟩ := h.cl
  refine (lose_yes xb k S F _ w hp hg.sml (List.getElem?_eq_getElem hk)).mono ?_
  rintro e w' ⟨rfl, F', h1, h2⟩
  exact ⟨rfl, At.go hF h.lt h.bel h1 h2⟩
theorem at_back (xb : Nat) (S : Cl) (G : Nat → Prop) (zs : List Int) (ao : Option Addr) (n cap : Nat) (w0 w : World) (h : At w0 G xb S w) (hl : zs.length = n) (hd : Has w ao zs) (hn : n ≤ 6) (hz : ∀ z ∈ zs, 0 ≤ z ∧ z ≤ 255) (ht : tE zs ≠ 1) :
    Calls Try.prog 9 #[.pointer (some ⟨xb, 0, none⟩), .slice ao n cap] w fun e w' => e = .returned (.int .i64 0) ∧ At w0 G xb (backM S (tblOf zs)) w' ∧ Kp G w w' := by
  obtain ⟨F, hp, hF⟩ := h.cl
  refine (back_any xb S F zs ao n cap w hp hl hd (by omega) hz).mono ?_
  rintro e w' (⟨h1, _⟩ | ⟨_, rfl, F', h1, h2⟩)
  · exact absurd h1 ht
  · exact ⟨rfl, At.go hF h.lt h.bel h1 h2⟩
theorem own_shaped {w : World} {base s : Nat} {e : TypeId} {v : Value} {n : Nat} {xs : List Value} (h : w.ownsRow base e s v n xs) : v = .slice none 0 0 ∧ n = 0 ∨ ∃ g cv, v = .slice (some ⟨g, 0, none⟩) n cv := by
  rcases h.2 with ⟨h, h'⟩ | ⟨g, cv, _, h, _⟩
  · exact .inl ⟨h, h'⟩
  · exact .inr ⟨g, cv, h⟩
/-- Backends of which no two are the same are let in. -/
theorem tE_nd (l : List Int) (hnd : nd l = true) (h1 : 1 ≤ l.length) (h6 : l.length ≤ 6) (hb : ∀ z ∈ l, 0 ≤ z ∧ z ≤ 255) : tE l = 0 := by
  have h := (asc_len l hb).2.2 hnd
  unfold tE
  rw [if_neg (by omega), if_neg (by omega)]
/-- What is packed is the packet that the bytes are. -/
theorem upK_pk (src dst proto id off : Int) (more : Bool) (sport dport : Int) (zs : List Int) (hsrc0 : 0 ≤ src) (hsrc : src ≤ 65535) (hdst0 : 0 ≤ dst) (hdst : dst ≤ 65535) (hproto0 : 0 ≤ proto) (hproto : proto ≤ 255) (hid0 : 0 ≤ id) (hid : id ≤ 65535) (hoff0 : 0 ≤ off) (hoff : off ≤ 255) (hsport0 : 0 ≤ sport) (hsport : sport ≤ 65535) (hdport0 : 0 ≤ dport) (hdport : dport ≤ 65535) (hwf : wfB off more sport dport zs.length = true) : upK (pkL src dst proto id off more sport dport zs) = some ⟨src, dst, proto, id, off, more, sport, dport, zs.length⟩ := by
  obtain ⟨h1, h2⟩ := up_pk src dst proto id off more sport dport zs hsrc0 hsrc hdst0 hdst hproto0 hproto hid0 hid hoff0 hoff hsport0 hsport hdport0 hdport hwf
  unfold upK
  rw [if_pos h1, h2]

end Go.Proofs.Ytajphdppmdoalab

namespace Go.Proofs.Ytajphdppmdoalab
open Go.RowKit
set_option linter.unusedVariables false

/-- Ints that lie behind an address. -/
def HasZ (w : World) (ao : Option Addr) (zs : List Int) : Prop := (ao = none → zs = []) ∧ (zs ≠ [] → ∃ b f, ao = some ⟨b, f, none⟩ ∧ b < w.heap.size ∧ ∀ j, j < zs.length → w.cell? ⟨b, f + j, none⟩ = some (.int .i64 (zs.getD j 0)))
theorem HasZ.only {w w' : World} {G : Nat → Prop} {ao : Option Addr} {zs : List Int} (h : HasZ w ao zs) (ho : Only G w w') (hG : ∀ a, ao = some a → ¬ G a.block) : HasZ w' ao zs := by
  refine ⟨h.1, fun hz => ?_⟩
  obtain ⟨b, o, rfl, hlt, hc⟩ := h.2 hz
  exact ⟨b, o, rfl, Nat.lt_of_lt_of_le hlt ho.size, fun j hj => (ho.cell (p := ⟨b, o + j, none⟩) hlt (hG ⟨b, o, none⟩ rfl)).trans (hc j hj)⟩
theorem HasZ.below {w w' : World} {ao : Option Addr} {zs : List Int} (h : HasZ w ao zs) (hb : Below w.heap.size w w') : HasZ w' ao zs := h.only (G := fun _ => False) (Only.of_below hb) (fun _ _ hh => hh)
def iv (u : Nat) : Value := .int .i64 u
theorem Try.infoInt : (Try.prog.info? 3).map (fun i => (i.zero, i.size, i.bytes)) = some (some (.int .i64 0), 1, 8) := by kernel_rfl
/-- Each step is at most m. -/
def gapsLe (m : Nat) : Nat → List Nat → Prop
  | _, [] => True
  | u, v :: r => v ≤ u + m ∧ gapsLe m v r
theorem rises_snoc (u : Nat) (r : List Nat) (v : Nat) (h : rises u r) (hv : lastU u r < v) : rises u (r ++ [v]) := by
  induction r generalizing u with
  | nil => exact ⟨hv, trivial⟩
  | cons x r ih => exact ⟨h.1, ih x h.2 hv⟩
theorem gaps_snoc (m u : Nat) (r : List Nat) (v : Nat) (h : gapsLe m u r) (hv : v ≤ lastU u r + m) : gapsLe m u (r ++ [v]) := by
  induction r generalizing u with
  | nil => exact ⟨hv, trivial⟩
  | cons x r ih => exact ⟨h.1, ih x h.2 hv⟩
theorem last_snoc (u : Nat) (r : List Nat) (v : Nat) : lastU u (r ++ [v]) = v := by
  induction r generalizing u with
  | nil => rfl
  | cons x r ih => exact ih x

set_option maxRecDepth 100000 in
set_option maxHeartbeats 1600000 in
theorem cut_any (zs : List Int) (m n cap : Nat) (ao : Option Addr) (w : World) (hl : zs.length = n) (hm : m ≤ 7) (hz : ∀ z ∈ zs, -9223372036854775808 ≤ z ∧ z ≤ 9223372036854775807 ∧ pk z 8 ≤ m) (hd : HasZ w ao zs) (hn : n ≤ 9223372036854775807) :
    Calls Try.prog 20 #[.slice ao n cap, .int .i64 8] w fun e w' => ∃ v r, e = .returned v ∧ w'.ownsRow w.heap.size 3 1 v (r.length + 1) ((0 :: r).map iv) ∧ rises 0 r ∧ gapsLe (m + 1) 0 r ∧ lastU 0 r ≤ 15 ∧ (r.length ≤ 7 ∧ r.length ≤ n) ∧ Below w.heap.size w w' := by
  obtain ⟨i5, hi, hz5, hz6, hz7⟩ := info_parts Try.infoInt
  go_enter Try.func20, Try.ntmps20
  go_wp2_with fail
  have HO0 : Hid ((w.alloc (.cells #[.int .i64 0] 3)).ownsRow w.heap.size 3 1 (.slice (some ⟨w.heap.size, 0, none⟩) 1 1) 1 ((0 :: ([] : List Nat)).map iv)) := own_build w 3 [.int .i64 0] (by decide)
  have HB0 : Hid (Below w.heap.size w (w.alloc (.cells #[.int .i64 0] 3))) := (Below.refl _ _).alloc (Nat.le_refl _) _
  generalize w.alloc (.cells #[.int .i64 0] 3) = w1 at *
  go_loopw [5, 6, 7] (fun a5 a6 a7 wr => ∃ (i : Nat) (r : List Nat), i ≤ n ∧ (r.length ≤ 7 ∧ r.length ≤ i) ∧ a7 = .int .i64 i ∧ a6 = .int .i64 (lastU 0 r : Nat) ∧ Hid (wr.ownsRow w.heap.size 3 1 a5 (r.length + 1) ((0 :: r).map iv)) ∧ Hid (rises 0 r ∧ gapsLe (m + 1) 0 r) ∧ lastU 0 r ≤ 15 ∧ Hid (Below w.heap.size w wr)) (fun _ _ a7 _ => n - (intOf a7).toNat)
  case atStart => exact ⟨0, [], by omega, ⟨by simp, by simp⟩, rfl, rfl, HO0.out, ⟨trivial, trivial⟩, by simp [lastU], HB0.out⟩
  case round =>
    obtain ⟨i, r, hi', hr, rfl, rfl, HO, HR, hla, HB⟩ := hrel
    clear HO0 HB0
    obtain ⟨g, cv, rfl⟩ := (own_shape HO.out).resolve_left (by
      rintro rfl
      rcases HO.out.2 with ⟨_, h⟩ | ⟨_, _, _, h, _⟩
      · omega
      · simp at h)
    by_cases hlt : i < n
    · by_cases hr7 : r.length < 7
      · have hzi : i < zs.length := by omega
        obtain ⟨b, f, rfl, hbl, hcs⟩ := hd.2 (by rintro rfl; simp at hzi)
        have s0 := (HB.out.cell (p := ⟨b, f + i, none⟩) hbl).trans (hcs i hzi)
        have hzb := hz (zs.getD i 0) (by rw [List.getD_eq_getElem?_getD, List.getElem?_eq_getElem hzi]; exact List.getElem_mem hzi)
        generalize zs.getD i 0 = z at *
        have i1 : (i : Int) < (n : Int) := by omega
        have i2 : ((r.length + 1 : Nat) : Int) < 8 := by omega
        have hsz : w.heap.size ≤ wr.heap.size := HB.out.size
        go_wp2_with fail
        refine (pick_any z 8 _ hzb.1 hzb.2.1 (by decide) (by decide)).mono ?_
        rintro e w2 ⟨rfl, rfl⟩
        have hpb := pk_bd z 8 (by decide)
        obtain ⟨u, hu⟩ := Int.eq_ofNat_of_zero_le hpb.1
        have hum := hzb.2.2
        rw [hu] at hpb hum ⊢
        obtain ⟨v, hv⟩ : ∃ v : Nat, v = lastU 0 r + 1 + u := ⟨_, rfl⟩
        have HR2 : Hid (rises 0 (r ++ [v]) ∧ gapsLe (m + 1) 0 (r ++ [v]) ∧ lastU 0 (r ++ [v]) = v) := ⟨rises_snoc 0 r v HR.out.1 (by omega), gaps_snoc (m + 1) 0 r v HR.out.2 (by omega), last_snoc 0 r v⟩
        have HLA := hide hla
        generalize lastU 0 r = la at hla hv ⊢
        clear s0 hu
        by_cases h15 : v ≤ 15
        · have i3 : ¬ (15 < (la : Int) + 1 + (u : Int)) := by omega
          go_wp2_with (at_builtin; refine wpList_append_own _ rfl (.tmp 31) (.tmp 33) 25 rfl w.heap.size 3 i5 (.int .i64 0) 1 8 Try.underlying25 hi hz5 hz6 hz7 rfl (by decide) _ _ _ rfl (HO.out.alloc _) ⟨w2.heap.size, 0, none⟩ 1 1 [_] rfl rfl (cell_one_new _ _ _) (by simp [Value.oneCell']) (by unfold maxLen; omega) (by omega) (by simp; omega) ?_)
          intro v5 w5 hown hgrow hiff
          have HO5 := hide hown
          have HB5 : Hid (Below w.heap.size w w5) := (HB.out.alloc hsz _).grown hgrow (by simp; omega) (fun q hq => by have := (HO.out.lt q hq).1; omega)
          clear hown hiff hgrow
          go_wp2
          go_roundw
          case rel => exact ⟨i + 1, r ++ [v], by omega, ⟨by simp; omega, by simp; omega⟩, by go_num, by rw [HR2.out.2.2, hv]; go_num, by
            rw [List.length_append, show ((0 :: (r ++ [v])).map iv) = (0 :: r).map iv ++ [.int .i64 ((la : Int) + 1 + (u : Int))] by simp [iv, hv]]
            exact HO5.out, ⟨HR2.out.1, HR2.out.2.1⟩, by rw [HR2.out.2.2]; exact h15, HB5.out⟩
          case measure => simp [intOf]; omega
        · have i3 : 15 < (la : Int) + 1 + (u : Int) := by omega
          go_wp2
          go_ret
          exact ⟨_, r, rfl, HO.out, HR.out.1, HR.out.2, HLA.out, ⟨hr.1, by omega⟩, HB.out⟩
      · have i1 : (i : Int) < (n : Int) := by omega
        have i2 : ¬ ((r.length + 1 : Nat) : Int) < 8 := by omega
        have i3 : ¬ ((r.length : Int) + 1) < 8 := by omega
        go_wp2
        go_ret
        exact ⟨_, rfl, r, HO.out, HR.out.1, HR.out.2, hla, ⟨hr.1, by omega⟩, HB.out⟩
    · go_wp2
      go_ret
      exact ⟨_, r, rfl, HO.out, HR.out.1, HR.out.2, hla, ⟨hr.1, by omega⟩, HB.out⟩

end Go.Proofs.Ytajphdppmdoalab

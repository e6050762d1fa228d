import Derived.Test.YtajphdppmdoalaaZPAtoPB
namespace Go.Proofs.Ytajphdppmdoalaa
open Go.RowKit
set_option linter.unusedVariables false

/-- A step of play: the cluster behind it, and how many arrivals it had. -/
structure PStep (S S' : Cl) (r : Nat) : Prop where
  good : Good S'
  acc : ∀ told, Acc told S → Acc told S'
  next : S'.next = S.next + r
  few : r ≤ 1
  reps : S'.reps = S.reps
  life : S'.life = S.life
  now : S.now ≤ S'.now ∧ S'.now ≤ S.now + 1
theorem land_same (S : Cl) (k : Nat) : (landM S k).reps = S.reps ∧ (landM S k).life = S.life ∧ (landM S k).now = S.now ∧ (landM S k).next = S.next := ⟨rfl, rfl, rfl, rfl⟩
theorem pstep_tick (S : Cl) (h : Good S) (hn : S.now + 1 ≤ 2000000000000) : PStep S (tickM S) 0 :=
  ⟨good_tick S h hn, fun told ht => acc_tick told S ht, rfl, by omega, rfl, rfl, by show S.now ≤ S.now + 1 ∧ S.now + 1 ≤ S.now + 1; omega⟩
theorem pstep_deliver (S : Cl) (k : Nat) (h : Good S) : PStep S (deliverM S k) 0 := by
  have hb := born_deliver S k h.born
  exact ⟨good_deliver S k h, fun told ht => acc_deliver told S k ht, deliver_next S k, by omega, hb.2.2.2.1, hb.2.2.1, by rw [hb.2.1]; omega⟩
theorem pstep_lose (S : Cl) (k : Nat) (h : Good S) : PStep S (loseM S k) 0 := by
  have hb := born_lose S k h.born
  exact ⟨good_lose S k h, fun told ht => acc_lose told S k ht, lose_next S k, by omega, hb.2.2.2.1, hb.2.2.1, by rw [hb.2.1]; omega⟩
theorem pstep_same (S : Cl) (h : Good S) : PStep S S 0 := ⟨h, fun _ ht => ht, rfl, by omega, rfl, rfl, by omega⟩
theorem pstep_back (S : Cl) (T : List Int) (h : Good S) (h1 : T = [] ∨ T.length = 31) (h2 : ∀ z ∈ T, 0 ≤ z ∧ z ≤ 255) : PStep S (backM S T) 0 :=
  ⟨good_back S T h h1 h2, fun told ht => acc_back told S T ht, rfl, by omega, rfl, rfl, by show S.now ≤ S.now ∧ S.now ≤ S.now + 1; omega⟩
theorem pstep_arrive (S : Cl) (rep : Int) (u : Option Pk) (h : Good S) (hn : S.next + 1 ≤ 2000000000000) (hu : ∀ p, u = some p → PkB p ∧ (wholePk p = false → PkOK p)) : PStep S (arriveM S rep u) 1 := by
  have hb := born_arrive S rep u h.born
  exact ⟨good_arrive S rep u h hn hu, fun told ht => acc_arrive told S rep u ht (fun p hp hw => (hu p hp).2 hw), arrive_next S rep u, by omega, hb.2.2.2.1, hb.2.2.1, by rw [hb.2.1]; omega⟩
theorem ascK_lt (zs : List Int) (k : Nat) : ∀ z ∈ ascK zs k, 0 ≤ z ∧ z < (k : Int) := by
  induction k with
  | zero => intro z hz; simp [ascK] at hz
  | succ k ih =>
    intro z hz
    rw [ascK] at hz
    split at hz
    · rcases List.mem_append.1 hz with hz | hz
      · have := ih z hz
        omega
      · have := List.mem_singleton.1 hz
        omega
    · have := ih z hz
      omega
theorem tbK_bd (ord : List Int) (h : ∀ z ∈ ord, 0 ≤ z ∧ z ≤ 255) (k : Nat) : ∀ o ∈ tbK ord k, 0 ≤ o.getD 0 ∧ o.getD 0 ≤ 255 := by
  have hg : ∀ i, 0 ≤ ord.getD i 0 ∧ ord.getD i 0 ≤ 255 := by
    intro i
    rw [List.getD_eq_getElem?_getD]
    cases hi : ord[i]? with
    | none => simp
    | some z => exact h z (List.mem_of_getElem? hi)
  induction k with
  | zero =>
    intro o ho
    rw [tbK] at ho
    rw [(List.mem_replicate.1 ho).2]
    simp
  | succ k ih =>
    intro o ho
    rw [tbK] at ho
    rcases List.mem_or_eq_of_mem_set ho with ho | ho
    · exact ih o ho
    · rw [ho]
      exact hg _
theorem tbl_bd' (zs : List Int) : ∀ z ∈ tblOf zs, 0 ≤ z ∧ z ≤ 255 := by
  intro z hz
  unfold tblOf at hz
  split at hz
  · simp at hz
  · rw [tbl] at hz
    obtain ⟨o, ho, rfl⟩ := List.mem_map.1 hz
    refine tbK_bd (asc zs) (fun y hy => ?_) _ o ho
    have := ascK_lt zs 256 y hy
    omega

theorem play_any (xb N : Nat) (S : Cl) (F : Nat → Prop) (kind a b c : Int) (w : World) (h : PrIs w xb S F) (hg : Good S) (hr : S.reps = (N : Int)) (hnx : S.next ≤ 1800000000000) (hnow : S.now ≤ 1800000000000)
    (hkind : -9223372036854775808 ≤ kind ∧ kind ≤ 9223372036854775807) (ha : -9223372036854775808 ≤ a ∧ a ≤ 9223372036854775807) (hb : -9223372036854775808 ≤ b ∧ b ≤ 9223372036854775807) (hc : -9223372036854775808 ≤ c ∧ c ≤ 9223372036854775807) :
    Calls Try.prog 23 #[.pointer (some ⟨xb, 0, none⟩), .int .i64 N, .agg #[.int .i64 kind, .int .i64 a, .int .i64 b, .int .i64 c]] w fun e w' => ∃ (S' : Cl) (r : Nat) (F' : Nat → Prop), e = .returned (.int .i64 r) ∧ PrIs w' xb S' F' ∧ Stp w w' F F' ∧ PStep S S' r := by
  have hF : ∀ k, F k → k < w.heap.size := by
    obtain ⟨gS, cs, vT, vV, vN, RR, Fs, h1, _⟩ := h
    exact h1.flt
  have h1 := hg.sml.cok.reps
  have h5 := hg.sml.reps
  refine (play_core xb N kind a b c _ _ _ _ w hkind ha hb hc rfl rfl rfl rfl (by omega) (by omega) (fun r wz w' => ∃ S' F', PrIs w' xb S' F' ∧ Stp wz w' F F' ∧ PStep S S' r)
    (hide (fun wz hbz => (ctick_any xb S F wz (h.below hbz) hg.sml).mono (fun e w' he => ⟨he.1, tickM S, he.2.choose, he.2.choose_spec.1, he.2.choose_spec.2, pstep_tick S hg (by omega)⟩)))
    (hide ?_) (hide ?_) (hide ?_) (hide ?_)).mono ?_
  · intro k wz hbz
    by_cases hk : k < 0 ∨ (S.sent.length : Int) ≤ k
    · refine (lose_no xb k S F wz (h.below hbz) hk).mono ?_
      rintro e w' ⟨rfl, hb'⟩
      exact ⟨1, rfl, S, F, (h.below hbz).below hb', Stp.below hb', pstep_same S hg⟩
    · obtain ⟨j, hj⟩ := Int.eq_ofNat_of_zero_le (show 0 ≤ k by omega)
      subst hj
      have hjl : j < S.sent.length := by omega
      refine (lose_yes xb j S F _ wz (h.below hbz) hg.sml (List.getElem?_eq_getElem hjl)).mono ?_
      rintro e w' ⟨rfl, F', h2, h3⟩
      exact ⟨0, rfl, _, F', h2, h3, pstep_lose S j hg⟩
  · intro k wz hbz
    by_cases hk : k < 0 ∨ (S.sent.length : Int) ≤ k
    · refine (deliver_no xb k S F wz (h.below hbz) hk).mono ?_
      rintro e w' ⟨rfl, hb'⟩
      exact ⟨1, rfl, S, F, (h.below hbz).below hb', Stp.below hb', pstep_same S hg⟩
    · obtain ⟨j, hj⟩ := Int.eq_ofNat_of_zero_le (show 0 ≤ k by omega)
      subst hj
      have hjl : j < S.sent.length := by omega
      refine (deliver_yes xb j S F _ wz (h.below hbz) hg.sml hg.uq hg.dst (List.getElem?_eq_getElem hjl)).mono ?_
      rintro e w' ⟨rfl, F', h2, h3⟩
      exact ⟨0, rfl, _, F', h2, h3, pstep_deliver S j hg⟩
  · intro zs ao n cap wz hbz hl hh hn6 hzb
    refine (back_any xb S F zs ao n cap wz (h.below hbz) hl hh (by omega) hzb).mono ?_
    rintro e w' (⟨_, rfl, hb'⟩ | ⟨_, rfl, F', h2, h3⟩)
    · exact ⟨1, rfl, S, F, (h.below hbz).below hb', Stp.below hb', pstep_same S hg⟩
    · exact ⟨0, rfl, _, F', h2, h3, pstep_back S _ hg (tblOf_len zs) (tbl_bd' zs)⟩
  · intro rep zs g n cap wz hbz hr0 hr1 hl hcap hcm hh hzb hgw
    refine (arrive_any xb S F rep zs (some ⟨g, 0, none⟩) n cap wz (h.below hbz) hg.sml hg.uq (by omega) hr0 (by omega) hl hcap hcm hh hzb ?_).mono ?_
    · intro ad had hF'
      simp only [Option.some.injEq] at had
      subst had
      have := hF _ hF'
      simp only at this
      omega
    · rintro e w' ⟨rfl, F', h2, h3⟩
      exact ⟨S.next, rfl, _, F', h2, h3, pstep_arrive S rep _ hg (by omega) (fun p hp => upK_ok zs hzb p hp)⟩
  · rintro e w' ⟨r, wz, rfl, hbz, S', F', h2, h3, h4⟩
    exact ⟨S', r, F', rfl, h2, (Stp.below hbz).trans h3, h4⟩

end Go.Proofs.Ytajphdppmdoalaa

namespace Go.Proofs.Ytajphdppmdoalaa
open Go.RowKit
set_option linter.unusedVariables false

theorem good_ticks (S : Cl) (n : Nat) (h : Good S) (hn : S.now + n ≤ 2000000000000) : Good (ticksM S n) := by
  induction n with
  | zero => exact h
  | succ n ih =>
    refine good_tick _ (ih (by omega)) ?_
    rw [(ticks_now S n).1]
    omega
/-- What is kept of nothing. -/
theorem held_nil (S : Cl) (he : S.ents = []) (o : Int) : (entsM S o).length = 0 ∧ heldN S o = 0 ∧ heldB S o = 0 := by
  have h0 : entsM S o = [] := by rw [entsM, he]; rfl
  exact ⟨by rw [h0]; rfl, by rw [heldN, h0]; rfl, by rw [heldB, h0]; rfl⟩
/-- A script of plain steps, as it lies in memory. -/
structure Opp where
  kind : Int
  a : Int
  b : Int
  c : Int
def Opp.ok (o : Opp) : Prop := (-9223372036854775808 ≤ o.kind ∧ o.kind ≤ 9223372036854775807) ∧ (-9223372036854775808 ≤ o.a ∧ o.a ≤ 9223372036854775807) ∧ (-9223372036854775808 ≤ o.b ∧ o.b ≤ 9223372036854775807) ∧ (-9223372036854775808 ≤ o.c ∧ o.c ≤ 9223372036854775807)
/-- The steps os lie behind an address. -/
def HasO (w : World) (ao : Option Addr) (os : List Opp) : Prop := (ao = none → os = []) ∧ (os ≠ [] → ∃ b f, ao = some ⟨b, f, none⟩ ∧ b < w.heap.size ∧ ∀ (i : Nat) (o : Opp), os[i]? = some o → w.cell? ⟨b, f + i * 4, none⟩ = some (.int .i64 o.kind) ∧ w.cell? ⟨b, f + i * 4 + 1, none⟩ = some (.int .i64 o.a) ∧ w.cell? ⟨b, f + i * 4 + 2, none⟩ = some (.int .i64 o.b) ∧ w.cell? ⟨b, f + i * 4 + 3, none⟩ = some (.int .i64 o.c))
theorem HasO.keep {w w' : World} {G : Nat → Prop} {ao : Option Addr} {os : List Opp} (h : HasO w ao os) (ho : Only G w w') (hG : ∀ a, ao = some a → ¬ G a.block) : HasO w' ao os := by
  refine ⟨h.1, fun hz => ?_⟩
  obtain ⟨b, f, rfl, hlt, hc⟩ := h.2 hz
  refine ⟨b, f, rfl, Nat.lt_of_lt_of_le hlt ho.size, fun i o hi => ?_⟩
  obtain ⟨c0, c1, c2, c3⟩ := hc i o hi
  exact ⟨(ho.cell (p := ⟨b, f + i * 4, none⟩) hlt (hG ⟨b, f, none⟩ rfl)).trans c0, (ho.cell (p := ⟨b, f + i * 4 + 1, none⟩) hlt (hG ⟨b, f, none⟩ rfl)).trans c1, (ho.cell (p := ⟨b, f + i * 4 + 2, none⟩) hlt (hG ⟨b, f, none⟩ rfl)).trans c2, (ho.cell (p := ⟨b, f + i * 4 + 3, none⟩) hlt (hG ⟨b, f, none⟩ rfl)).trans c3⟩

end Go.Proofs.Ytajphdppmdoalaa

namespace Go.Proofs.Ytajphdppmdoalaa
open Go.RowKit
set_option linter.unusedVariables false

/-- A cluster that was begun behind the world w0 reads as S; the blocks G are none of its own. -/
structure At (w0 : World) (G : Nat → Prop) (xb : Nat) (S : Cl) (w : World) : Prop where
  cl : ∃ F, PrIs w xb S F ∧ ∀ k, F k → w0.heap.size ≤ k ∧ ¬ G k
  lt : ∀ k, G k → k < w.heap.size
  bel : Below w0.heap.size w0 w
/-- The blocks G are as they were. -/
def Kp (G : Nat → Prop) (w w' : World) : Prop := Only (fun k => ¬ G k) w w'
theorem Kp.refl (G : Nat → Prop) (w : World) : Kp G w w := Only.refl _ _
theorem Kp.trans {G : Nat → Prop} {a b c : World} (h : Kp G a b) (k : Kp G b c) : Kp G a c := Only.trans h k (fun _ _ h => h)
theorem Kp.below {G : Nat → Prop} {w w' : World} (h : Below w.heap.size w w') : Kp G w w' := Only.of_below h
theorem Kp.cell {G : Nat → Prop} {w w' : World} (h : Kp G w w') {p : Addr} (hp : p.block < w.heap.size) (hn : G p.block) : w'.cell? p = w.cell? p := Only.cell h hp (fun hh => hh hn)
theorem Kp.less {G G' : Nat → Prop} {w w' : World} (h : Kp G w w') (hg : ∀ k, G' k → G k) : Kp G' w w' := Only.mono h (fun k _ hn hg' => hn (hg k hg'))
theorem At.go {w0 w w' : World} {G F F' : Nat → Prop} {xb : Nat} {S' : Cl} (hF : ∀ k, F k → w0.heap.size ≤ k ∧ ¬ G k) (hl : ∀ k, G k → k < w.heap.size) (hb : Below w0.heap.size w0 w) (hp : PrIs w' xb S' F') (hs : Stp w w' F F') : At w0 G xb S' w' ∧ Kp G w w' := by
  refine ⟨⟨⟨F', hp, fun k hk => ?_⟩, fun k hk => Nat.lt_of_lt_of_le (hl k hk) hs.only.size, hb.trans (hs.only.to_below hb.size (fun k hk => (hF k hk).1))⟩, hs.only.mono (fun k _ hk => (hF k hk).2)⟩
  rcases hs.own k hk with h | h
  · exact hF k h
  · exact ⟨Nat.le_trans hb.size h, fun hg => by have := hl k hg; omega⟩
theorem At.below {w0 w w' : World} {G : Nat → Prop} {xb : Nat} {S : Cl} (h : At w0 G xb S w) (hb : Below w.heap.size w w') : At w0 G xb S w' := by
  obtain ⟨F, hp, hF⟩ := h.cl
  exact ⟨⟨F, hp.below hb, hF⟩, fun k hk => Nat.lt_of_lt_of_le (h.lt k hk) hb.size, h.bel.trans (hb.mono h.bel.size)⟩
/-- Blocks that are new behind a world in which the cluster stood are none of its own. -/
theorem At.plus {w0 w w' : World} {G : Nat → Prop} {xb : Nat} {S : Cl} (h : At w0 G xb S w) (hb : Below w.heap.size w w') (g : Nat) (h1 : w.heap.size ≤ g) (h2 : g < w'.heap.size) : At w0 (fun k => G k ∨ k = g) xb S w' := by
  obtain ⟨F, hp, hF⟩ := h.cl
  have hflt : ∀ k, F k → k < w.heap.size := by
    obtain ⟨gS, cs, vT, vV, vN, RR, Fs, h1, _⟩ := hp
    exact h1.flt
  refine ⟨⟨F, hp.below hb, fun k hk => ⟨(hF k hk).1, fun hg => ?_⟩⟩, fun k hk => ?_, h.bel.trans (hb.mono h.bel.size)⟩
  · rcases hg with hg | rfl
    · exact (hF k hk).2 hg
    · have := hflt k hk
      omega
  · rcases hk with hk | rfl
    · exact Nat.lt_of_lt_of_le (h.lt k hk) hb.size
    · exact h2
theorem At.less {w0 w : World} {G G' : Nat → Prop} {xb : Nat} {S : Cl} (h : At w0 G xb S w) (hg : ∀ k, G' k → G k) : At w0 G' xb S w := by
  obtain ⟨F, hp, hF⟩ := h.cl
  exact ⟨⟨F, hp, fun k hk => ⟨(hF k hk).1, fun hk' => (hF k hk).2 (hg k hk')⟩⟩, fun k hk => h.lt k (hg k hk), h.bel⟩
/-- A block of G that came behind w0 may be written. -/
theorem At.set {w0 w : World} {G : Nat → Prop} {xb : Nat} {S : Cl} (h : At w0 G xb S w) (p : Addr) (hg : G p.block) (h0 : w0.heap.size ≤ p.block) (u : Value) : At w0 G xb S (w.setCell p u) := by
  obtain ⟨F, hp, hF⟩ := h.cl
  have ho : Only (fun k => k = p.block) w (w.setCell p u) := (Only.refl (fun k => k = p.block) w).setCell (fun _ => rfl) u
  exact ⟨⟨F, hp.only ho (fun k hk e => (hF k hk).2 (by rw [e]; exact hg)), hF⟩, fun k hk => Nat.lt_of_lt_of_le (h.lt k hk) ho.size, h.bel.setCell h0 u⟩
theorem At.reps {w0 w : World} {G : Nat → Prop} {xb : Nat} {S : Cl} (h : At w0 G xb S w) : xb < w.heap.size := by
  obtain ⟨F, hp, hF⟩ := h.cl
  obtain ⟨gS, cs, vT, vV, vN, RR, Fs, h1, _⟩ := hp
  exact h1.lt

theorem at_begun (N : Nat) (life : Int) (zs : List Int) (ao : Option Addr) (n cap : Nat) (w0 w : World) (h0 : Below w0.heap.size w0 w) (hN1 : 1 ≤ N) (hN5 : N ≤ 5) (hl1 : 1 ≤ life) (hl2 : life ≤ 20) (hl : zs.length = n) (hd : Has w ao zs) (hn : n ≤ 6) (hz : ∀ z ∈ zs, 0 ≤ z ∧ z ≤ 255) (ht : tE zs ≠ 1) :
    Calls Try.prog 16 #[.int .i64 N, .int .i64 life, .slice ao n cap] w fun e w' => ∃ xb, e = .returned (.pointer (some ⟨xb, 0, none⟩)) ∧ At w0 (fun k => k < w.heap.size) xb (backM (Cl.new N life) (tblOf zs)) w' ∧ Below w.heap.size w w' := by
  refine (begun_any N life zs ao n cap w hN1 hN5 hl1 hl2 hl hd hn hz ht).mono ?_
  rintro e w' ⟨xb, F, rfl, h1, h2, h3⟩
  exact ⟨xb, rfl, ⟨⟨F, h1, fun k hk => ⟨Nat.le_trans h0.size (h2 k hk), by have := h2 k hk; omega⟩⟩, fun k hk => Nat.lt_of_lt_of_le hk h3.size, h0.trans (h3.mono h0.size)⟩, h3⟩
theorem at_tick (xb : Nat) (S : Cl) (G : Nat → Prop) (w0 w : World) (h : At w0 G xb S w) (hs : Sml S) :
    Calls Try.prog 25 #[.pointer (some ⟨xb, 0, none⟩)] w fun e w' => e = .returned (.tuple #[]) ∧ At w0 G xb (tickM S) w' ∧ Kp G w w' := by
  obtain ⟨F, hp, hF⟩ := h.cl
  refine (ctick_any xb S F w hp hs).mono ?_
  rintro e w' ⟨rfl, F', h1, h2⟩
  exact ⟨rfl, At.go hF h.lt h.bel h1 h2⟩
theorem at_play (xb N : Nat) (S : Cl) (G : Nat → Prop) (kind a b c : Int) (w0 w : World) (h : At w0 G xb S w) (hg : Good S) (hr : S.reps = (N : Int)) (hnx : S.next ≤ 1800000000000) (hnow : S.now ≤ 1800000000000)
    (hkind : -9223372036854775808 ≤ kind ∧ kind ≤ 9223372036854775807) (ha : -9223372036854775808 ≤ a ∧ a ≤ 9223372036854775807) (hb : -9223372036854775808 ≤ b ∧ b ≤ 9223372036854775807) (hc : -9223372036854775808 ≤ c ∧ c ≤ 9223372036854775807) :
    Calls Try.prog 23 #[.pointer (some ⟨xb, 0, none⟩), .int .i64 N, .agg #[.int .i64 kind, .int .i64 a, .int .i64 b, .int .i64 c]] w fun e w' => ∃ (S' : Cl) (r : Nat), e = .returned (.int .i64 r) ∧ At w0 G xb S' w' ∧ Kp G w w' ∧ PStep S S' r := by
  obtain ⟨F, hp, hF⟩ := h.cl
  refine (play_any xb N S F kind a b c w hp hg hr hnx hnow hkind ha hb hc).mono ?_
  rintro e w' ⟨S', r, F', rfl, h1, h2, h3⟩
  obtain ⟨h4, h5⟩ := At.go hF h.lt h.bel h1 h2
  exact ⟨S', r, rfl, h4, h5, h3⟩
theorem at_held (xb k : Nat) (S : Cl) (G : Nat → Prop) (w0 w : World) (h : At w0 G xb S w) (hs : Sml S) (hk : (k : Int) < S.reps) :
    Calls Try.prog 22 #[.pointer (some ⟨xb, 0, none⟩), .int .i64 k] w fun e w' => e = .returned (.tuple #[.agg #[.int .i64 (entsM S k).length, .int .i64 (heldN S k), .int .i64 (heldB S k)], .int .i64 0]) ∧ At w0 G xb S w' ∧ Below w.heap.size w w' := by
  obtain ⟨F, hp, hF⟩ := h.cl
  refine (held_yes xb k S F w hp hs hk).mono ?_
  rintro e w' ⟨rfl, hb⟩
  exact ⟨rfl, h.below hb, hb⟩
theorem at_take (xb : Nat) (S : Cl) (G : Nat → Prop) (w0 w : World) (h : At w0 G xb S w) :
    Calls Try.prog 21 #[.pointer (some ⟨xb, 0, none⟩)] w fun e w' => ∃ v, e = .returned v ∧ At w0 (fun k => G k ∨ v.ownBlock = some k) xb (takeM S) w' ∧ Kp G w w' ∧ w'.ownsRow w0.heap.size 56 3 v S.evs.length (S.evs.flatMap Ev.cells) ∧ (∀ g, v.ownBlock = some g → ¬ G g) := by
  obtain ⟨F, hp, hF⟩ := h.cl
  refine (take_any xb S F w hp).mono ?_
  rintro e w' ⟨v, F', rfl, h1, h2, h3, h4⟩
  obtain ⟨h5, h6⟩ := At.go hF h.lt h.bel h1 h2
  have hb : ∀ g, v.ownBlock = some g → w0.heap.size ≤ g ∧ g < w'.heap.size := by
    intro g hg
    refine ⟨(hF g (h4 g hg).1).1, ?_⟩
    obtain ⟨cur, hc⟩ := own_tag' h3 hg
    exact lt_of_block hc
  refine ⟨v, rfl, ⟨⟨F', h1, fun k hk => ?_⟩, fun k hk => ?_, h5.bel⟩, h6, ?_, fun g hg => (hF g (h4 g hg).1).2⟩
  · rcases h2.own k hk with hk' | hk'
    · refine ⟨(hF k hk').1, fun hh => ?_⟩
      rcases hh with hh | hh
      · exact (hF k hk').2 hh
      · exact (h4 k hh).2 hk
    · refine ⟨Nat.le_trans h.bel.size hk', fun hh => ?_⟩
      rcases hh with hh | hh
      · have := h.lt k hh
        omega
      · exact (h4 k hh).2 hk
  · rcases hk with hk | hk
    · exact h5.lt k hk
    · exact (hb k hk).2
  · refine ⟨h3.1, ?_⟩
    rcases h3.2 with h' | ⟨g, cap, cur, hv, hbs, hh, r⟩
    · exact .inl h'
    · exact .inr ⟨g, cap, cur, hv, (hb g (by rw [hv]; rfl)).1, hh, r⟩
theorem at_owner (xb : Nat) (S : Cl) (G : Nat → Prop) (src dst proto id off : Int) (more : Bool) (sport dport : Int) (ao : Option Addr) (n cap : Nat) (w0 w : World) (h : At w0 G xb S w) (hs : Sml S) (hsrc0 : 0 ≤ src) (hsrc : src ≤ 65535) (hdst0 : 0 ≤ dst) (hdst : dst ≤ 65535) (hproto0 : 0 ≤ proto) (hproto : proto ≤ 255) (hid0 : 0 ≤ id) (hid : id ≤ 65535) (hoff0 : 0 ≤ off) (hoff : off ≤ 255) (hsport0 : 0 ≤ sport) (hsport : sport ≤ 65535) (hdport0 : 0 ≤ dport) (hdport : dport ≤ 65535) :
    Calls Try.prog 26 #[.pointer (some ⟨xb, 0, none⟩), .agg #[.int .u16 src, .int .u16 dst, .int .u8 proto, .int .u16 id, .int .u8 off, .bool more, .int .u16 sport, .int .u16 dport, .slice ao n cap]] w fun e w' => e = .returned (.int .i64 (dgH src dst proto id % S.reps)) ∧ At w0 G xb S w' ∧ Below w.heap.size w w' := by
  obtain ⟨F, hp, hF⟩ := h.cl
  obtain ⟨gS, cs, vT, vV, vN, RR, Fs, h1, h2, _⟩ := hp
  refine (owner_any xb S F gS cs vT vV vN RR Fs (fun _ => S.now) src dst proto id off more sport dport ao n cap w h1 (by have := hs.cok.reps; omega) (by have := hs.reps; omega) hsrc0 hsrc hdst0 hdst hproto0 hproto hid0 hid hoff0 hoff hsport0 hsport hdport0 hdport).mono ?_
  rintro e w' ⟨rfl, hb⟩
  exact ⟨by rw [h2], h.below hb, hb⟩
theorem at_choose (xb : Nat) (S : Cl) (G : Nat → Prop) (src dst proto id off : Int) (more : Bool) (sport dport : Int) (ao : Option Addr) (n cap : Nat) (w0 w : World) (h : At w0 G xb S w) (hs : S.slots.length = 31) (hsrc0 : 0 ≤ src) (hsrc : src ≤ 65535) (hdst0 : 0 ≤ dst) (hdst : dst ≤ 65535) (hproto0 : 0 ≤ proto) (hproto : proto ≤ 255) (hid0 : 0 ≤ id) (hid : id ≤ 65535) (hoff0 : 0 ≤ off) (hoff : off ≤ 255) (hsport0 : 0 ≤ sport) (hsport : sport ≤ 65535) (hdport0 : 0 ≤ dport) (hdport : dport ≤ 65535) :
    Calls Try.prog 18 #[.pointer (some ⟨xb, 0, none⟩), .agg #[.int .u16 src, .int .u16 dst, .int .u8 proto, .int .u16 id, .int .u8 off, .bool more, .int .u16 sport, .int .u16 dport, .slice ao n cap]] w fun e w' => e = .returned (.tuple #[.int .u8 (S.slots.getD ((flH src dst proto sport dport).toNat % 31) 0), .int .i64 0]) ∧ At w0 G xb S w' ∧ Below w.heap.size w w' := by
  obtain ⟨F, hp, hF⟩ := h.cl
  obtain ⟨gS, cs, vT, vV, vN, RR, Fs, h1, h2, _⟩ := hp
  refine (choose_any xb S F gS cs vT vV vN RR Fs (fun _ => S.now) src dst proto id off more sport dport ao n cap w h1 (.inr hs) hsrc0 hsrc hdst0 hdst hproto0 hproto hid0 hid hoff0 hoff hsport0 hsport hdport0 hdport).mono ?_
  rintro e w' ⟨rfl, hb⟩
  refine ⟨?_, h.below hb, hb⟩
  have : (!S.slots.isEmpty) = true := by cases hh : S.slots with | nil => rw [hh] at hs; cases hs | cons a l => rfl
  rw [if_pos this]
theorem at_arrive (xb : Nat) (S : Cl) (G : Nat → Prop) (rep : Int) (zs : List Int) (g n cap : Nat) (w0 w : World) (h : At w0 G xb S w) (hs : Sml S) (hu : Uq S.ents) (hnx : S.next ≤ 1900000000000) (hr0 : 0 ≤ rep) (hr1 : rep < S.reps)
    (hl : zs.length = n) (hcap : n ≤ cap) (hcm : cap ≤ maxLen) (hd : Has w (some ⟨g, 0, none⟩) zs) (hz : ∀ z ∈ zs, 0 ≤ z ∧ z ≤ 255) (hg : G g) :
    Calls Try.prog 19 #[.pointer (some ⟨xb, 0, none⟩), .int .i64 rep, .slice (some ⟨g, 0, none⟩) n cap] w fun e w' => e = .returned (.tuple #[.int .i64 S.next, .int .i64 0]) ∧ At w0 G xb (arriveM S rep (upK zs)) w' ∧ Kp G w w' := by
  obtain ⟨F, hp, hF⟩ := h.cl
  refine (arrive_any xb S F rep zs (some ⟨g, 0, none⟩) n cap w hp hs hu hnx hr0 hr1 hl hcap hcm hd hz ?_).mono ?_
  · intro ad had hF'
    simp only [Option.some.injEq] at had
    subst had
    exact (hF _ hF').2 hg
  · rintro e w' ⟨rfl, F', h1, h2⟩
    exact ⟨rfl, At.go hF h.lt h.bel h1 h2⟩
theorem at_flying (xb : Nat) (S : Cl) (G : Nat → Prop) (w0 w : World) (h : At w0 G xb S w) (hn : S.sent.length ≤ 2000000000000) :
    Calls Try.prog 24 #[.pointer (some ⟨xb, 0, none⟩)] w fun e w' => ∃ v, e = .returned v ∧ w'.ownsRow w.heap.size 91 3 v S.sent.length (S.sent.flatMap Snt.fly) ∧ At w0 G xb S w' ∧ Below w.heap.size w w' := by
  obtain ⟨F, hp, hF⟩ := h.cl
  refine (flying_any xb S F w hp hn).mono ?_
  rintro e w' ⟨v, rfl, h1, h2⟩
  exact ⟨v, rfl, h1, h.below h2, h2⟩
theorem at_deliver (xb k : Nat) (S : Cl) (G : Nat → Prop) (w0 w : World) (h : At w0 G xb S w) (hg : Good S) (hk : k < S.sent.length) :
    Calls Try.prog 38 #[.pointer (some ⟨xb, 0, none⟩), .int .i64 k] w fun e w' => e = .returned (.int .i64 0) ∧ At w0 G xb (deliverM S k) w' ∧ Kp G w w' := by
  obtain ⟨F, hp, hF⟩ := h.cl
  refine (deliver_yes xb k S F _ w hp hg.sml hg.uq hg.dst (List.getElem?_eq_getElem hk)).mono ?_
  rintro e w' ⟨rfl, F', h1, h2⟩
  exact ⟨rfl, At.go hF h.lt h.bel h1 h2⟩
theorem at_lose (xb k : Nat) (S : Cl) (G : Nat → Prop) (w0 w : World) (h : At w0 G xb S w) (hg : Good S) (hk : k < S.sent.length) :
    Calls Try.prog 40 #[.pointer (some ⟨xb, 0, none⟩), .int .i64 k] w fun e w' => e = .returned (.int .i64 0) ∧ At w0 G xb (loseM S k) w' ∧ Kp G w w' := by
  obtain ⟨F, hp, hF⟩ := h.cl
  refine (lose_yes xb k S F _ w hp hg.sml (List.getElem?_eq_getElem hk)).mono ?_
  rintro e w' ⟨rfl, F', h1, h2⟩
  exact ⟨rfl, At.go hF h.lt h.bel h1 h2⟩
theorem at_back (xb : Nat) (S : Cl) (G : Nat → Prop) (zs : List Int) (ao : Option Addr) (n cap : Nat) (w0 w : World) (h : At w0 G xb S w) (hl : zs.length = n) (hd : Has w ao zs) (hn : n ≤ 6) (hz : ∀ z ∈ zs, 0 ≤ z ∧ z ≤ 255) (ht : tE zs ≠ 1) :
    Calls Try.prog 31 #[.pointer (some ⟨xb, 0, none⟩), .slice ao n cap] w fun e w' => e = .returned (.int .i64 0) ∧ At w0 G xb (backM S (tblOf zs)) w' ∧ Kp G w w' := by
  obtain ⟨F, hp, hF⟩ := h.cl
  refine (back_any xb S F zs ao n cap w hp hl hd (by omega) hz).mono ?_
  rintro e w' (⟨h1, _⟩ | ⟨_, rfl, F', h1, h2⟩)
  · exact absurd h1 ht
  · exact ⟨rfl, At.go hF h.lt h.bel h1 h2⟩
theorem own_shaped {w : World} {base s : Nat} {e : TypeId} {v : Value} {n : Nat} {xs : List Value} (h : w.ownsRow base e s v n xs) : v = .slice none 0 0 ∧ n = 0 ∨ ∃ g cv, v = .slice (some ⟨g, 0, none⟩) n cv := by
  rcases h.2 with ⟨h, h'⟩ | ⟨g, cv, _, h, _⟩
  · exact .inl ⟨h, h'⟩
  · exact .inr ⟨g, cv, h⟩
/-- Backends of which no two are the same are let in. -/
theorem tE_nd (l : List Int) (hnd : nd l = true) (h1 : 1 ≤ l.length) (h6 : l.length ≤ 6) (hb : ∀ z ∈ l, 0 ≤ z ∧ z ≤ 255) : tE l = 0 := by
  have h := (asc_len l hb).2.2 hnd
  unfold tE
  rw [if_neg (by omega), if_neg (by omega)]
/-- What is packed is the packet that the bytes are. -/
theorem upK_pk (src dst proto id off : Int) (more : Bool) (sport dport : Int) (zs : List Int) (hsrc0 : 0 ≤ src) (hsrc : src ≤ 65535) (hdst0 : 0 ≤ dst) (hdst : dst ≤ 65535) (hproto0 : 0 ≤ proto) (hproto : proto ≤ 255) (hid0 : 0 ≤ id) (hid : id ≤ 65535) (hoff0 : 0 ≤ off) (hoff : off ≤ 255) (hsport0 : 0 ≤ sport) (hsport : sport ≤ 65535) (hdport0 : 0 ≤ dport) (hdport : dport ≤ 65535) (hwf : wfB off more sport dport zs.length = true) : upK (pkL src dst proto id off more sport dport zs) = some ⟨src, dst, proto, id, off, more, sport, dport, zs.length⟩ := by
  obtain ⟨h1, h2⟩ := up_pk src dst proto id off more sport dport zs hsrc0 hsrc hdst0 hdst hproto0 hproto hid0 hid hoff0 hoff hsport0 hsport hdport0 hdport hwf
  unfold upK
  rw [if_pos h1, h2]

end Go.Proofs.Ytajphdppmdoalaa

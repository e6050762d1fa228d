import Derived.Test.YtajphdppmdoalaaZQFtoQF
import Derived.Test.YtajphdppmdoalaaRows
import Derived.Test.YtajphdppmdoalaaZPCtoQE
import Derived.WalkKit
import Derived.ProofKit
import Derived.OpenShut
import Derived.ShutString
import Derived.ChangeOld
import Derived.Below
import Derived.SizedLaws
import Derived.Deep.Slices
import Derived.JoinedCond
namespace Go.Proofs.Ytajphdppmdoalaa
open Go.RowKit
set_option linter.unusedVariables false

/-- Each piece that waits has a byte. -/
theorem held_bytes (S : Cl) (h : COK S) (o : Int) : (heldN S o : Int) ≤ heldB S o := by
  have key : ∀ l : List Pc, (∀ q ∈ l, q.a < q.b) → (l.length : Int) ≤ bytesL l := by
    intro l
    induction l with
    | nil => intro _; simp [bytesL]
    | cons q l ih =>
      intro hq
      have h1 := ih (fun r hr => hq r (List.mem_cons_of_mem _ hr))
      have h2 := hq q (List.mem_cons_self ..)
      unfold bytesL at h1 ⊢
      simp only [List.map_cons, List.sum_cons, List.length_cons]
      omega
  unfold heldN heldB
  refine key _ (fun q hq => ?_)
  obtain ⟨e, he, hqe⟩ := List.mem_flatMap.1 hq
  have hee := (List.mem_filter.1 he).1
  exact ((h.ents e hee).1.pos q (List.mem_filter.1 hqe).1).2
theorem sum_range (f : Nat → Nat) (n : Nat) : ((List.range n).map f).sum = sumN f n := by
  induction n with
  | zero => rfl
  | succ n ih => rw [List.range_succ, List.map_append, List.sum_append, ih]; simp [sumN]

def CtI (w : World) (N : Nat) (xb tb i A : Nat) (told : List Nat) (wz : World) : Prop := ∃ S, Good S ∧ S.reps = (N : Int) ∧ S.next = A ∧ A ≤ i ∧ S.now ≤ i ∧ Acc told S ∧ w.heap.size ≤ tb ∧ At w (fun k => k = tb) xb S wz
def CtK (w : World) (N : Nat) (xb tb i A FL : Nat) (hn : Nat → Nat) (told : List Nat) (wz : World) : Prop := ∃ S, Good S ∧ S.reps = (N : Int) ∧ S.next = A ∧ A ≤ i ∧ S.now ≤ i ∧ Acc told S ∧ w.heap.size ≤ tb ∧ S.sent.length = FL ∧ (∀ r : Nat, heldN S (r : Int) = hn r) ∧ At w (fun k => k = tb) xb S wz

theorem up_counted : upK (pkL 0 0 0 0 0 false 0 0 (fl 0 4)) = some ⟨0, 0, 0, 0, 0, false, 0, 0, 4⟩ := by
  have := upK_pk 0 0 0 0 0 false 0 0 (fl 0 4) (by omega) (by omega) (by omega) (by omega) (by omega) (by omega) (by omega) (by omega) (by omega) (by omega) (by omega) (by omega) (by omega) (by omega) (by rw [fl_length]; rfl)
  rw [fl_length] at this
  exact this
theorem by_counted : ∀ z ∈ pkL 0 0 0 0 0 false 0 0 (fl 0 4), 0 ≤ z ∧ z ≤ 255 :=
  pk_bytes 0 0 0 0 0 false 0 0 (fl 0 4) (by omega) (by omega) (by omega) (by omega) (by omega) (by omega) (by omega) (by omega) (by omega) (by omega) (by omega) (by omega) (by omega) (by omega) (by rw [fl_length]; omega) (fl_bd 0 4)

theorem counted_any (n cap : Nat) (replicas life : Int) (ao : Option Addr) (os : List Opp) (w : World) (hr : -9223372036854775808 ≤ replicas ∧ replicas ≤ 9223372036854775807) (hf : -9223372036854775808 ≤ life ∧ life ≤ 9223372036854775807) (hl : os.length = n) (hn : n ≤ 1048576) (hos : HasO w ao os) (hok : ∀ o ∈ os, o.ok) :
    Calls Try.prog 7 #[.slice ao n cap, .int .i64 replicas, .int .i64 life] w fun e w' => e = .returned (.bool true) ∧ Below w.heap.size w w' := by
  have b1 := pk_bd replicas 5 (by decide)
  have b2 := pk_bd life 20 (by decide)
  obtain ⟨N, hN⟩ := Int.eq_ofNat_of_zero_le (show 0 ≤ 1 + pk replicas 5 by omega)
  obtain ⟨T, hT⟩ := Int.eq_ofNat_of_zero_le (show 0 ≤ 1 + pk life 20 by omega)
  have hN1 : 1 ≤ N ∧ N ≤ 5 := by omega
  have hT1 : 1 ≤ T ∧ T ≤ 20 := by omega
  refine counted_core N T n cap replicas life ao os w hr hf hN hT hl hn hos hok (fun xb wz => At w (fun _ => False) xb (backM (Cl.new N T) (tblOf [1, 2, 3])) wz) (CtI w N) (CtK w N)
    (hide ?_) (hide ?_) (hide ?_) (hide ?_) (hide ?_) (hide ?_) (hide ?_) (hide ?_) (hide ?_) (hide ?_) (hide ?_)
  · intro wz g cv hbz hh
    refine (at_begun N T [1, 2, 3] (some ⟨g, 0, none⟩) 3 cv w wz hbz hN1.1 hN1.2 (by omega) (by omega) rfl hh (by omega) (by simp) (by rw [tE_nd [1, 2, 3] rfl (by simp) (by simp) (by simp)]; decide)).mono ?_
    rintro e w' ⟨xb, rfl, h1, h2⟩
    exact ⟨xb, rfl, h1.less (fun _ h => h.elim)⟩
  · intro xb wz w' tb h hb h1 h2
    refine ⟨backM (Cl.new N T) (tblOf [1, 2, 3]), good_back _ _ (good_new N T (by omega) (by omega) (by omega)) (tblOf_len _) (tbl_bd' _), rfl, rfl, Nat.le_refl _, Int.le_refl _, acc_back _ _ _ (acc_new N T (by omega)), Nat.le_trans h.bel.size h1, (h.plus hb tb h1 h2).less (fun k hk => .inr hk)⟩
  · rintro xb tb i A told wz ⟨S, h1, h2, h3, h4, h5, h6, h7, h⟩
    exact ⟨h.bel, h7, h4⟩
  · rintro xb tb i A told p wz hp ⟨S, h1, h2, h3, h4, h5, h6, h7, h⟩
    have hin : i < n := by
      rw [← hl]
      exact (List.getElem?_eq_some_iff.1 hp).1
    obtain ⟨k1, k2, k3, k4⟩ := hok p (List.mem_of_getElem? hp)
    have hgl := h.lt tb rfl
    refine (at_play xb N S _ p.kind p.a p.b p.c w wz h h1 h2 (by omega) (by omega) k1 k2 k3 k4).mono ?_
    rintro e w' ⟨S', r, rfl, a1, a2, a3⟩
    have q1 := a3.next
    have q2 := a3.few
    have q3 := a3.now
    exact ⟨r, rfl, q2, ⟨S', a3.good, a3.reps.trans h2, by omega, by omega, by omega, a3.acc told h6, h7, a1⟩, a2.block tb hgl (fun hh => hh rfl)⟩
  · rintro xb tb i A told wz hi ⟨S, h1, h2, h3, h4, h5, h6, h7, h⟩
    have hgl := h.lt tb rfl
    obtain ⟨f1, f2⟩ := acc_fresh told S h6
    have f3 := acc_count told S h6
    refine (at_take xb S _ w wz h).mono ?_
    rintro e w' ⟨v, rfl, a1, a2, a3, a4⟩
    refine ⟨v, S.evs, S.sent.length, fun r => heldN S (r : Int), rfl, ⟨takeM S, good_take S h1, h2, h3, h4, h5, acc_take told S h6, h7, rfl, fun r => rfl, a1.less (fun k hk => .inl hk)⟩, a2.block tb hgl (fun hh => hh rfl), a3, fun hh => a4 tb hh rfl, f1, ?_, ?_⟩
    · intro x hx
      refine ⟨by rw [← h3]; exact f2 _ (List.mem_map_of_mem hx), ?_⟩
      by_cases hf0 : x.fate = 0
      · exact .inl hf0
      · exact .inr (h1.evs x hx hf0)
    · rw [← h3, f3, sum_range (fun r => heldN S (r : Int)), h2]
      simp only [List.length_append, List.length_map, Int.toNat_natCast]
  · rintro xb tb i A FL hn' told wz j u ⟨S, h1, h2, h3, h4, h5, h6, h7, h8, h9, h⟩
    exact ⟨S, h1, h2, h3, h4, h5, h6, h7, h8, h9, h.set ⟨tb, j, none⟩ rfl h7 u⟩
  · rintro xb tb i A FL hn' told wz w' ⟨S, h1, h2, h3, h4, h5, h6, h7, h8, h9, h⟩ hb
    exact ⟨S, h1, h2, h3, h4, h5, h6, h7, h8, h9, h.below hb⟩
  · rintro xb tb i A FL hn' told wz ⟨S, h1, h2, h3, h4, h5, h6, h7, h8, h9, h⟩
    exact ⟨S, h1, h2, h3, h4, h5, h6, h7, h⟩
  · rintro xb tb i A FL hn' told wz ⟨S, h1, h2, h3, h4, h5, h6, h7, h8, h9, h⟩
    refine (at_flying xb S _ w wz h (by have := evs_few S h1.sml; have := h1.sml.next; omega)).mono ?_
    rintro e w' ⟨v, rfl, a1, a2, a3⟩
    rw [h8] at a1
    rcases own_shaped a1 with ⟨rfl, h0⟩ | ⟨g, cv, rfl⟩
    · exact ⟨none, 0, by rw [h0], a3⟩
    · exact ⟨_, cv, rfl, a3⟩
  · rintro xb tb i A FL hn' told r wz hr' ⟨S, h1, h2, h3, h4, h5, h6, h7, h8, h9, h⟩
    refine (at_held xb r S _ w wz h h1.sml (by rw [h2]; omega)).mono ?_
    rintro e w' ⟨rfl, a1, a2⟩
    have c1 := h1.sml.cok.few (r : Int)
    have c2 := h1.sml.cok.held (r : Int)
    have c3 := held_bytes S h1.sml.cok (r : Int)
    rw [h9] at c3 ⊢
    exact ⟨_, _, rfl, by omega, by omega, c2, c3, a2⟩
  · rintro xb tb A told g ln cv wz w1 ⟨S, h1, h2, h3, h4, h5, h6, h7, h⟩ hb hrow
    obtain ⟨o1, o2, o3, o4⟩ := owns_has hrow
    have hlt := hrow.lt g rfl
    have hA := h.plus hb g hlt.1 hlt.2
    refine (at_arrive xb S _ 0 _ g ln cv w w1 hA h1.sml h1.uq (by omega) (by omega) (by rw [h2]; omega) o2 o3 o4 o1 by_counted (.inr rfl)).mono ?_
    rintro e w' ⟨rfl, a1, a2⟩
    exact ⟨by rw [h3], a1.bel⟩

end Go.Proofs.Ytajphdppmdoalaa


namespace Go.Proofs.Ytajphdppmdoalaa
open Go.ChangeShapes Go.WideShapes Go.ChangeAt Go.RowKit Go.Deep
set_option linter.unusedVariables false

theorem own2 : ownKnob Try.prog.godebug = none := by kernel_rfl
theorem laidOut2 : laidOutB Try.prog = true := by kernel_rfl
theorem cellsOp : Try.prog.cellsOf 65 = 4 := by kernel_rfl
theorem bulk_one {H : Type} (d : DataW H) : 1 ≤ Rows.uptoBulk d := by
  cases d with
  | lit l => cases l <;> simp [Rows.uptoBulk]
  | nil => simp [Rows.uptoBulk]
  | ptr d => simp [Rows.uptoBulk]
  | slice elems spare => simp [Rows.uptoBulk]
  | agg parts => simp [Rows.uptoBulk]
  | iface t d => simp [Rows.uptoBulk]
  | map entries => simp [Rows.uptoBulk]
  | held h => simp [Rows.uptoBulk]
theorem bulk_length {H : Type} (l : List (DataW H)) : l.length ≤ Rows.uptoBulkAll l := by
  induction l with
  | nil => simp [Rows.uptoBulkAll]
  | cons x r ih => have := bulk_one x; simp only [Rows.uptoBulkAll, List.length_cons]; omega
theorem bulk_slice {H : Type} (elems spare : List (DataW H)) : elems.length ≤ Rows.uptoBulk (.slice elems spare) := by
  have h1 := bulk_length elems
  simp only [Rows.uptoBulk]
  omega
theorem bulk_three {H : Type} {d0 d1 d2 : DataW H} {gs : List (DataW H)} (hk : Rows.uptoSmall H ([d0, d1, d2] ++ gs) = true) : Rows.uptoBulk d0 ≤ 1048576 := by
  have h : Rows.uptoBulkAll ([d0, d1, d2] ++ gs) ≤ 1048576 := of_decide_eq_true hk
  simp only [List.cons_append, Rows.uptoBulkAll] at h
  omega
theorem oaddr_add (b o j : Nat) : (⟨b, o, none⟩ : Addr).add j = ⟨b, o + j, none⟩ := by cases j <;> simp [Addr.add]
theorem oaddr_plain {w : World} {a : Addr} {v : Value} (h : w.cell? a = some v) : ∃ b o, a = ⟨b, o, none⟩ := by
  obtain ⟨b, o, spot⟩ := a
  have hspot : spot = none := by simpa using World.cell?_spot h
  subst hspot
  exact ⟨b, o, rfl⟩
theorem list4 {α : Type} {l : List α} (h : l.length = 4) : ∃ c0 c1 c2 c3, l = [c0, c1, c2, c3] := by
  match l, h with
  | [c0, c1, c2, c3], _ => exact ⟨c0, c1, c2, c3, rfl⟩

set_option maxRecDepth 100000 in
/-- A step that came in. -/
theorem open_op {H : Type} {enc : TypeId × Value → H} {w : World} {fuel : Nat} {cs : List Value} {y : DataW H × List MemPlace}
    (h : DataW.trod enc Try.prog w 0 (fun _ => true) true fuel 65 cs = some y) :
    ∃ p : Opp, p.ok ∧ cs = [.int .i64 p.kind, .int .i64 p.a, .int .i64 p.b, .int .i64 p.c] := by
  obtain ⟨xs, n, _, hx, hl, hlen, hg⟩ := DataW.trod_struct Try.underlying65 h
  rw [cellsOp] at hl
  obtain ⟨c0, c1, c2, c3, rfl⟩ := list4 hl
  match xs, hlen with
  | [y0, y1, y2, y3], _ =>
    have g0 : DataW.trod enc Try.prog w 0 (fun _ => true) true n 3 [c0] = some y0 := hg 0 _ rfl
    have g1 : DataW.trod enc Try.prog w 0 (fun _ => true) true n 3 [c1] = some y1 := hg 1 _ rfl
    have g2 : DataW.trod enc Try.prog w 0 (fun _ => true) true n 3 [c2] = some y2 := hg 2 _ rfl
    have g3 : DataW.trod enc Try.prog w 0 (fun _ => true) true n 3 [c3] = some y3 := hg 3 _ rfl
    obtain ⟨k0, e0, _, w0⟩ := DataW.trod_int Try.underlying3 g0
    obtain ⟨k1, e1, _, w1⟩ := DataW.trod_int Try.underlying3 g1
    obtain ⟨k2, e2, _, w2⟩ := DataW.trod_int Try.underlying3 g2
    obtain ⟨k3, e3, _, w3⟩ := DataW.trod_int Try.underlying3 g3
    simp at e0 e1 e2 e3
    subst e0 e1 e2 e3
    exact ⟨⟨k0, k1, k2, k3⟩, ⟨bounds_i64 w0, bounds_i64 w1, bounds_i64 w2, bounds_i64 w3⟩, rfl⟩

set_option maxRecDepth 100000 in
set_option maxHeartbeats 400000 in
/-- A script that came in. -/
theorem open_ops {H : Type} {enc : TypeId × Value → H} {w : World} {ao : Option Addr} {N cap : Nat} {d : DataW H} {ps : List MemPlace}
    (h : DataW.Trod enc Try.prog w 0 (fun _ => true) true 62 (.slice ao N cap) d ps) :
    ∃ os : List Opp, os.length = N ∧ HasO w ao os ∧ (∀ o ∈ os, o.ok) ∧ N ≤ Rows.uptoBulk d := by
  obtain ⟨fuel, hf⟩ := h
  have hf' : DataW.trod enc Try.prog w 0 (fun _ => true) true fuel 62 [.slice ao N cap] = some (d, ps) := by simpa [Value.cells] using hf
  rcases open_slice Try.underlying62 hf' with ⟨hcs, _⟩ | ⟨a, len, cap', m, n, D, Pl, hcs, _, hl, hm, hmm, hx, hel⟩
  · simp at hcs
    obtain ⟨rfl, rfl, rfl⟩ := hcs
    exact ⟨[], rfl, ⟨fun _ => rfl, fun h => absurd rfl h⟩, by simp, Nat.zero_le _⟩
  · simp at hcs
    obtain ⟨rfl, rfl, rfl⟩ := hcs
    have hmc : m = cap := by simpa using hmm
    subst hmc
    have hd : d = .slice ((List.range N).map D) ((List.range (m - N)).map fun j => D (N + j)) := by
      have := congrArg Prod.fst hx; simpa using this
    have hN : N ≤ Rows.uptoBulk d := by
      have := bulk_slice ((List.range N).map D) ((List.range (m - N)).map fun j => D (N + j))
      rw [← hd] at this
      simpa using this
    by_cases h0 : N = 0
    · subst h0
      exact ⟨[], rfl, ⟨fun _ => rfl, fun h => absurd rfl h⟩, by simp, Nat.zero_le _⟩
    obtain ⟨b, o, rfl⟩ : ∃ b o, a = ⟨b, o, none⟩ := by
      obtain ⟨cs0, hc0, _⟩ := hel 0 (by omega)
      rw [cellsOp] at hc0
      obtain ⟨_, hl0, hcell0⟩ := World.cells?_some hc0
      have h00 := hcell0 0 (by omega)
      rw [List.getElem?_eq_getElem (by omega)] at h00
      obtain ⟨b, o, ha⟩ := oaddr_plain h00
      obtain ⟨b', o', sp⟩ := a
      simp [Addr.add] at ha
      obtain ⟨_, _, rfl⟩ := ha
      exact ⟨b', o', rfl⟩
    have hall : ∀ i, i < N → ∃ p : Opp, p.ok ∧ w.cell? ⟨b, o + i * 4, none⟩ = some (.int .i64 p.kind) ∧ w.cell? ⟨b, o + i * 4 + 1, none⟩ = some (.int .i64 p.a) ∧ w.cell? ⟨b, o + i * 4 + 2, none⟩ = some (.int .i64 p.b) ∧ w.cell? ⟨b, o + i * 4 + 3, none⟩ = some (.int .i64 p.c) := by
      intro i hi
      obtain ⟨cs, hc, htr⟩ := hel i (by omega)
      rw [cellsOp] at hc
      obtain ⟨p, hp, rfl⟩ := open_op htr
      obtain ⟨_, hl', hcell⟩ := World.cells?_some hc
      have q0 := hcell 0 (by omega)
      have q1 := hcell 1 (by omega)
      have q2 := hcell 2 (by omega)
      have q3 := hcell 3 (by omega)
      rw [oaddr_add, oaddr_add] at q0 q1 q2 q3
      exact ⟨p, hp, q0, q1, q2, q3⟩
    have hex : ∃ os : List Opp, os.length = N ∧ ∀ i p, os[i]? = some p → p.ok ∧ w.cell? ⟨b, o + i * 4, none⟩ = some (.int .i64 p.kind) ∧ w.cell? ⟨b, o + i * 4 + 1, none⟩ = some (.int .i64 p.a) ∧ w.cell? ⟨b, o + i * 4 + 2, none⟩ = some (.int .i64 p.b) ∧ w.cell? ⟨b, o + i * 4 + 3, none⟩ = some (.int .i64 p.c) := by
      have key : ∀ k, k ≤ N → ∃ os : List Opp, os.length = k ∧ ∀ i p, os[i]? = some p → p.ok ∧ w.cell? ⟨b, o + i * 4, none⟩ = some (.int .i64 p.kind) ∧ w.cell? ⟨b, o + i * 4 + 1, none⟩ = some (.int .i64 p.a) ∧ w.cell? ⟨b, o + i * 4 + 2, none⟩ = some (.int .i64 p.b) ∧ w.cell? ⟨b, o + i * 4 + 3, none⟩ = some (.int .i64 p.c) := by
        intro k
        induction k with
        | zero => intro _; exact ⟨[], rfl, by simp⟩
        | succ k ih =>
          intro hk
          obtain ⟨os, hl, hos⟩ := ih (by omega)
          obtain ⟨p, hp, q0, q1, q2, q3⟩ := hall k (by omega)
          refine ⟨os ++ [p], by simp [hl], fun i p' hi => ?_⟩
          by_cases hik : i < k
          · rw [List.getElem?_append_left (by omega)] at hi
            exact hos i p' hi
          · have hik' : i = k := by
              have := (List.getElem?_eq_some_iff.1 hi).1
              simp at this
              omega
            subst hik'
            rw [List.getElem?_append_right (by omega)] at hi
            simp [hl] at hi
            subst hi
            exact ⟨hp, q0, q1, q2, q3⟩
      exact key N (Nat.le_refl _)
    obtain ⟨os, hlen, hos⟩ := hex
    refine ⟨os, hlen, ⟨fun h => (by cases h), fun _ => ⟨b, o, rfl, ?_, fun i p hi => (hos i p hi).2⟩⟩, fun p hp => ?_, hN⟩
    · obtain ⟨p, _, q0, _⟩ := hall 0 (by omega)
      exact World.block_lt_of_cell? w _ q0
    · obtain ⟨i, hi⟩ := List.getElem?_of_mem hp
      exact (hos i p hi).1

end Go.Proofs.Ytajphdppmdoalaa

namespace Go.Proofs.Ytajphdppmdoalaa
open Go.ChangeShapes Go.WideShapes Go.ChangeAt Go.RowKit Go.Deep
set_option linter.unusedVariables false

set_option maxRecDepth 100000 in
theorem counted_lifted (os : Os) (started : os.Started) (H : Type) (enc : TypeId × Value → H) (F : Stop.Interp) :
    ReturnsInHanded {} Try.checked os 7 .any ((Rows.OpenSpec.upto Rows.countedSpec).pre6 enc Try.prog Try.f7 Rows.countedUptoRow.domain false) (((Rows.OpenSpec.upto Rows.countedSpec).at F).post enc Try.prog Try.f7 false true false false) := by
  refine returnsInHanded_of_cond (C := Try.checked) (s := Rows.OpenSpec.upto Rows.countedSpec) (k := Rows.uptoSmall) rfl own2 started (by kernel_rfl) Try.func7
    (OpenSpec.witness (enc := enc) (C := Try.checked) (s := Rows.OpenSpec.upto Rows.countedSpec) (k := Rows.uptoSmall) rfl false ⟨#[], #[.slice none 0 0, .int .i64 0, .int .i64 0], []⟩ 8 (by kernel_rfl) (by kernel_rfl) (by kernel_rfl)
      (x := ([.nil, .lit (.int .i64 0), .lit (.int .i64 0)], [], [])) (by kernel_rfl) rfl (by kernel_rfl)) ?_
  intro W base args ds gs before hval0 hW _ hk _
  have hval : ∀ (j : Nat) t v, Try.f7.params[j]? = some t → args[j]? = some v → Value.okWide Try.prog W .any base t v := hval0
  have hW' := hW
  obtain ⟨p, q, hA0, hV, rfl, hfz, hnd⟩ := hW
  have hA : DataW.TrodAll enc Try.prog W 0 (fun _ => true) true Try.f7.params.toList args.toList ds p := hA0
  rw [Try.params7] at hA hval
  obtain ⟨v0, vs0, d0, ds0, p0, q0, hargs, rfl, rfl, h0, r0⟩ := trodAll_cons hA
  obtain ⟨v1, vs1, d1, ds1, p1, q1, rfl, rfl, rfl, h1, r1⟩ := trodAll_cons r0
  obtain ⟨v2, vs2, d2, ds2, p2, q2, rfl, rfl, rfl, h2, r2⟩ := trodAll_cons r1
  obtain ⟨rfl, rfl, rfl⟩ := trodAll_nil r2
  obtain rfl : args = #[v0, v1, v2] := by cases args; simp_all
  obtain ⟨rfl, rfl⟩ := trodVars_none hV
  obtain ⟨a0, len0, cap0, rfl⟩ := okWide_slice Try.underlying62 (hval 0 62 v0 rfl rfl)
  obtain ⟨a1, rfl, rfl, rfl, w1⟩ := open_int Try.underlying3 (hval 1 3 v1 rfl rfl) h1
  obtain ⟨a2, rfl, rfl, rfl, w2⟩ := open_int Try.underlying3 (hval 2 3 v2 rfl rfl) h2
  have k0 := h0
  have lt0 : ∀ x ∈ p0, x.block < W.heap.size := by obtain ⟨m, hm⟩ := k0; exact DataW.trod_lt m _ _ _ hm
  obtain ⟨ps, hpl, hps, hpo, hbk⟩ := open_ops h0
  have hN : len0 ≤ 1048576 := Nat.le_trans hbk (bulk_three hk)
  clear hA0 hval0
  have b1 := bounds_i64 w1
  have b2 := bounds_i64 w2
  refine (counted_any len0 cap0 a1 a2 a0 ps W b1 b2 hpl hN hps hpo).mono fun e W' ⟨he, bel⟩ => ?_
  subst he
  exact ⟨_, rfl, _, _, _, [], _, [], hW', trodAll_mk1 (shut_bool Try.underlying4 _), (trodAll_cons_mk (Below.trod laidOut2 (by kernel_rfl) (of_decide_eq_true (by kernel_rfl)) k0 bel lt0) (trodAll_cons_mk (shut_int Try.underlying3 w1) (trodAll_cons_mk (shut_int Try.underlying3 w2) trodAll_mk0))), rfl, bel.frame _, fun h => by cases h⟩

theorem counted_holds : Rows.CountedUptoSaid :=
  OpenClaim.holds_of_cond 7 Try.f7 rfl rfl rfl rfl rfl rfl rfl ⟨rfl, rfl, rfl, rfl, rfl⟩ rfl rfl rfl rfl rfl (by kernel_rfl) Try.func7 (by kernel_rfl)
    (of_decide_eq_true (by kernel_rfl)) (by unfold Func.isWrapper; first | (rw [if_pos (by decide +kernel)]; kernel_rfl) | (rw [if_neg (by decide +kernel)]; exact ⟨rfl, rfl⟩))
    (fun os started H enc _ F => counted_lifted os started H enc F)

end Go.Proofs.Ytajphdppmdoalaa

import Derived.Test.YtajphdppmdoalaaZMAtoNA
import Derived.Deep.AppendLies
import Derived.Deep.RegionLaw
namespace Go.Proofs.Ytajphdppmdoalaa
open Go.RowKit
set_option linter.unusedVariables false

def endO (l : List Pc) : Option Int := (l.filter (·.ends)).getLast?.map (·.b)
def Pc.span (q : Pc) : List Value := [.int .i64 q.a, .int .i64 q.b]
def Pc.wtg (q : Pc) : List Value := [.int .i64 q.seq, .int .i64 (q.b - q.a)]
theorem Pc.span_len (q : Pc) : q.span.length = 2 := rfl
theorem Pc.wtg_len (q : Pc) : q.wtg.length = 2 := rfl
/-- Pieces are in the bounds of a datagram. -/
def PcB (l : List Pc) : Prop := l.length ≤ 1000 ∧ ∀ q ∈ l, 0 ≤ q.a ∧ q.a ≤ q.b ∧ q.b ≤ 92

set_option maxRecDepth 100000 in
set_option maxHeartbeats 1600000 in
theorem complete_any (g o : Nat) (l : List Pc) (sv : Value) (w : World) (hg : g < w.heap.size) (c5 : w.cell? ⟨g, o + 5, none⟩ = some sv) (c6 : w.cell? ⟨g, o + 6, none⟩ = some (.bool (endO l).isSome)) (c7 : w.cell? ⟨g, o + 7, none⟩ = some (.int .i64 ((endO l).getD 0)))
    (hS : w.ownsRow 0 132 2 sv l.length (l.flatMap Pc.span)) (hb : PcB l) :
    Calls Try.prog 63 #[.pointer (some ⟨g, o, none⟩)] w fun e w' => e = .returned (.bool ((endO l).isSome && (bytesL l == (endO l).getD 0))) ∧ Below w.heap.size w w' := by
  obtain ⟨ao, cap, rfl⟩ := own_slice hS
  have HP := hide hS
  have HQ := hide hb
  have hl : l.length ≤ 1000 := hb.1
  have HC6 := hide c6
  have HC7 := hide c7
  clear hS hb c6 c7
  go_enter Try.func63, Try.ntmps63
  go_wp2_with fail
  go_loopw [11, 3] (fun i n wr => ∃ j : Nat, j ≤ l.length ∧ i = .int .i64 j ∧ n = .int .i64 (bytesL (l.take j)) ∧ Hid (Below w.heap.size w wr)) (fun i _ _ => l.length - (intOf i).toNat)
  case atStart => exact ⟨0, Nat.zero_le _, rfl, rfl, Below.refl _ _⟩
  case round =>
    obtain ⟨j, hj, rfl, rfl, HB⟩ := hrel
    by_cases hlt : j < l.length
    · obtain ⟨gs, q, hgq⟩ := own_some HP.out (by omega)
      rw [Value.slice.injEq] at hgq
      obtain ⟨rfl, _, rfl⟩ := hgq
      have hN := own_below' HP.out (fun k hk => (HP.out.lt k hk).2) HB.out
      have hgz : gs < wr.heap.size := (hN.lt gs rfl).2
      obtain ⟨q, hr⟩ : ∃ q, l[j]? = some q := ⟨_, List.getElem?_eq_getElem hlt⟩
      have c0 : wr.cell? ⟨gs, j * 2, none⟩ = _ := row_get Pc.span Pc.span_len hN j q hr 0 _ rfl
      have c1 := row_get Pc.span Pc.span_len hN j q hr 1 _ rfl
      have HT := hide (take_snoc l j q hr)
      have hbd := bytesL_take l j HQ.out.2 hl
      have hqb := HQ.out.2 q (List.mem_of_getElem? hr)
      generalize hN0 : bytesL (l.take j) = N at *
      have HN0 := hide hN0
      obtain ⟨qs, qa, qb, qe, qw⟩ := q
      simp only at hqb
      have hsz : w.heap.size ≤ wr.heap.size := HB.out.size
      clear hN hr hN0
      go_wp2
      go_roundw
      case rel => exact ⟨j + 1, by omega, by go_num, by rw [HT.out, bytesL_snoc, HN0.out]; congr 1; simp only; omega, HB.out.alloc hsz _⟩
      case measure => simp [intOf]; omega
    · obtain rfl : j = l.length := by omega
      rw [List.take_length]
      have d6 := (HB.out.cell (p := ⟨g, o + 6, none⟩) hg).trans HC6.out
      have d7 := (HB.out.cell (p := ⟨g, o + 7, none⟩) hg).trans HC7.out
      have hgr : g < wr.heap.size := Nat.lt_of_lt_of_le hg HB.out.size
      cases hE : endO l with
      | none =>
        rw [hE] at d6 d7
        go_wp2
        go_ret
        exact ⟨by rw [hE]; rfl, HB.out⟩
      | some b =>
        rw [hE] at d6 d7
        go_wp2
        go_ret
        exact ⟨by rw [hE]; rfl, HB.out⟩

/-- Does a span of the program's bar a piece from a to b? -/
def barS (a b : Int) (last : Bool) (q : Pc) : Bool := (decide (a < q.b) && decide (q.a < b)) || (last && decide (b < q.b))
theorem one_end (l : List Pc) (hp : l.Pairwise (fun q r => clashM q r = false)) : l.filter (·.ends) = [] ∨ ∃ q, l.filter (·.ends) = [q] := by
  have h := hp.filter (fun q : Pc => q.ends)
  have he : ∀ q ∈ l.filter (·.ends), q.ends = true := fun q hq => (List.mem_filter.1 hq).2
  cases hl : l.filter (·.ends) with
  | nil => exact .inl rfl
  | cons q t =>
    cases t with
    | nil => exact .inr ⟨q, rfl⟩
    | cons r t =>
      exfalso
      rw [hl] at h he
      have h1 := (List.pairwise_cons.1 h).1 r List.mem_cons_self
      have h2 := clash_end q r h1 (he r (by simp))
      have h3 := he q List.mem_cons_self
      rw [h2.2] at h3
      cases h3
/-- The program's test is the document's. -/
theorem clash_prog (l : List Pc) (n : Pc) (hp : l.Pairwise (fun q r => clashM q r = false)) :
    l.any (fun q => clashM q n) = ((endO l).isSome && (n.ends || decide ((endO l).getD 0 < n.b)) || l.any (barS n.a n.b n.ends)) := by
  have h1 : ∀ q, clashM q n = ((q.ends && (n.ends || decide (q.b < n.b))) || barS n.a n.b n.ends q) := by
    intro q
    unfold clashM barS
    cases q.ends <;> cases n.ends <;> simp [Bool.and_comm, Bool.or_comm]
  have h2 : ∀ l : List Pc, l.any (fun q => clashM q n) = (l.any (fun q => q.ends && (n.ends || decide (q.b < n.b))) || l.any (barS n.a n.b n.ends)) := by
    intro l
    induction l with
    | nil => rfl
    | cons q l ih =>
      rw [List.any_cons, List.any_cons, List.any_cons, ih, h1 q]
      cases (q.ends && (n.ends || decide (q.b < n.b))) <;> cases barS n.a n.b n.ends q <;> simp
  rw [h2]
  congr 1
  have h3 : l.any (fun q => q.ends && (n.ends || decide (q.b < n.b))) = (l.filter (·.ends)).any (fun q => n.ends || decide (q.b < n.b)) := by
    rw [List.any_filter]
  rw [h3, endO]
  rcases one_end l hp with h | ⟨q, h⟩
  · rw [h]; simp
  · rw [h]; simp only [List.any_cons, List.any_nil, Bool.or_false, List.getLast?_singleton, Option.map_some, Option.isSome_some, Option.getD_some, Bool.true_and]; rfl

def entSet (xs : List Value) (o : Nat) (a b c d e f : Value) : List Value := (((((xs.set (o + 5) a).set (o + 6) b).set (o + 7) c).set (o + 8) d).set (o + 9) e).set (o + 10) f
theorem set_same (xs : List Value) (i : Nat) (v : Value) (h : xs[i]? = some v) : xs.set i v = xs := by
  obtain ⟨hi, h⟩ := List.getElem?_eq_some_iff.1 h
  subst h
  exact List.set_getElem_self hi

/-- What is told of an accepted piece, and of those that waited for it. -/
def accEv (seq : Nat) (wl : List Pc) (k : Bool) (t : Int) : List Ev := if k then ⟨seq, 0, t⟩ :: wl.map (fun q => ⟨q.seq, 0, t⟩) else []

end Go.Proofs.Ytajphdppmdoalaa

namespace Go.Proofs.Ytajphdppmdoalaa
open Go.RowKit
set_option linter.unusedVariables false

/-- What is told of pieces that waited. -/
def outL (l : List Pc) : List Ev := l.map (fun q => ⟨q.seq, 6, 0⟩)

set_option maxRecDepth 100000 in
set_option maxHeartbeats 1600000 in
theorem timeout_any (g o : Nat) (l : List Pc) (hv : Value) (w : World) (hg : g < w.heap.size) (c10 : w.cell? ⟨g, o + 10, none⟩ = some hv)
    (hS : w.ownsRow 0 118 2 hv l.length (l.flatMap Pc.wtg)) (hb : l.length ≤ 1000) :
    Calls Try.prog 55 #[.pointer (some ⟨g, o, none⟩)] w fun e w' => ∃ v, e = .returned v ∧ w'.ownsRow w.heap.size 56 3 v l.length ((outL l).flatMap Ev.cells) ∧ Below w.heap.size w w' ∧ (l.length = 0 → v = .slice none 0 0) := by
  obtain ⟨i0, hi, hz0, hz1, hz2⟩ := info_parts Try.infoEv
  have HI := hide (And.intro hi (And.intro hz0 (And.intro hz1 hz2)))
  clear hi hz0 hz1 hz2
  obtain ⟨ao, cap, rfl⟩ := own_slice hS
  have HP := hide hS
  clear hS
  go_enter Try.func55, Try.ntmps55
  go_wp2_with fail
  go_loopw [11, 3] (fun i v wr => ∃ j : Nat, j ≤ l.length ∧ i = .int .i64 j ∧ Hid (wr.ownsRow w.heap.size 56 3 v j ((outL (l.take j)).flatMap Ev.cells)) ∧ Hid (Below w.heap.size w wr) ∧ Hid (j = 0 → v = .slice none 0 0)) (fun i _ _ => l.length - (intOf i).toNat)
  case atStart => exact ⟨0, Nat.zero_le _, rfl, World.ownsRow_nil _ _ _ _, Below.refl _ _, fun _ => rfl⟩
  case round =>
    obtain ⟨j, hj, rfl, HO, HB, HNI⟩ := hrel
    by_cases hlt : j < l.length
    · obtain ⟨gs, q, hgq⟩ := own_some HP.out (by omega)
      rw [Value.slice.injEq] at hgq
      obtain ⟨rfl, _, rfl⟩ := hgq
      have hN := own_below' HP.out (fun k hk => (HP.out.lt k hk).2) HB.out
      have hgz : gs < wr.heap.size := (hN.lt gs rfl).2
      obtain ⟨q, hr⟩ : ∃ q, l[j]? = some q := ⟨_, List.getElem?_eq_getElem hlt⟩
      have c0 : wr.cell? ⟨gs, j * 2, none⟩ = _ := row_get Pc.wtg Pc.wtg_len hN j q hr 0 _ rfl
      have c1 := row_get Pc.wtg Pc.wtg_len hN j q hr 1 _ rfl
      have HT : Hid ((outL (l.take (j + 1))).flatMap Ev.cells = (outL (l.take j)).flatMap Ev.cells ++ [.int .i64 q.seq, .int .u8 6, .int .u8 0]) := by
        show _ = _
        rw [take_snoc l j q hr]
        simp [outL, Ev.cells]
      obtain ⟨qs, qa, qb, qe, qw⟩ := q
      simp only at c0 c1 HT
      have hsz : w.heap.size ≤ wr.heap.size := HB.out.size
      obtain ⟨hi, hz0, hz1, hz2⟩ := HI.out
      clear hN hr
      go_wp2_with (at_builtin; refine wpList_append_own _ rfl (.tmp 15) (.tmp 19) 52 rfl w.heap.size 56 i0 _ 3 16 Try.underlying52 hi hz0 hz1 hz2 rfl (by decide) _ _ _ rfl ((HO.out.alloc _).alloc _) ⟨wr.heap.size + 1, 0, none⟩ 1 1 [.int .i64 qs, .int .u8 6, .int .u8 0] rfl rfl (news2 _ _ _ _) (by simp [Value.oneCell']) (by unfold maxLen; omega) (by omega) (by simp; omega) ?_)
      intro v2 w2 hown hgrow hiff
      rw [← HT.out] at hown
      have HO2 := hide hown
      have HB2 : Hid (Below w.heap.size w w2) := ((HB.out.alloc hsz _).alloc (by simp; omega) _).grown hgrow (by simp; omega) (fun k hk => (HO.out.lt k hk).1)
      clear hown hgrow hiff
      go_wp2
      go_roundw
      case rel => exact ⟨j + 1, by omega, by go_num, HO2.out, HB2.out, fun h => by omega⟩
      case measure => simp [intOf]; omega
    · obtain rfl : j = l.length := by omega
      rw [List.take_length] at HO
      go_wp2
      go_ret
      exact ⟨_, rfl, HO.out, HB.out, HNI.out⟩

end Go.Proofs.Ytajphdppmdoalaa

/-
  The levels of the buckets: a map keyed by buckets; what it holds, as a list without an order.
-/
import Derived.Test.YthmhfilkgggagaaGreatDoorMapBase
import Derived.Maps.RangeWalk
namespace Go.Proofs.YthmhfilkgggagaaGreatDoor
open Go.RowKit Go.Maps

/-- A bucket: its class, its organisation, its tenant (none: the organisation's own). -/
abbrev Kb := Nat × List UInt8 × List UInt8
abbrev Lv := List (Kb × Nat)

def keyV (k : Kb) : Value := .agg #[.int .i64 k.1, .string ⟨k.2.1.toArray⟩, .string ⟨k.2.2.toArray⟩]
def OkK (k : Kb) : Prop := k.1 < 2 ∧ k.2.1.length ≤ 2000 ∧ k.2.2.length ≤ 2000

set_option maxRecDepth 100000 in
theorem row_key : (118 : TypeId) < Tryz.prog.types.size := of_decide_eq_true (by kernel_rfl)
theorem keyAt_key : Tryz.prog.keyTypeAt 4 118 = true := by kernel_rfl
theorem law_key : Keyed Tryz.prog 118 := Keyed.of_law (deep_law_laid laidOut (m := 4) (by omega) row_key keyAt_key (by rw [Tryz.underlying118]))
theorem keyType_key : Tryz.prog.keyType 118 = true := by kernel_rfl
theorem cells_key : Tryz.prog.cellsOf 118 = 3 := by kernel_rfl

def klb (k : Kb) : Lit := .string (keyBytes [.int .i64 k.1, .string k.2.1, .string k.2.2])

set_option maxRecDepth 100000 in
theorem keyOf_key (k : Kb) (h : OkK k) : keyOf Tryz.prog 118 (keyV k) = some (klb k) := by
  obtain ⟨h2, h3, h4⟩ := h
  obtain ⟨n, hn⟩ : ∃ n, Tryz.prog.types.size = n + 2 := ⟨_, (Nat.sub_add_cancel (show 2 ≤ Tryz.prog.types.size from of_decide_eq_true (by kernel_rfl))).symm⟩
  unfold keyOf
  rw [Tryz.underlying118]
  simp only []
  rw [keyType_key, hn, keyLits_succ _ _ _ _ Tryz.underlying118]
  have wc : (Lit.int .i64 (k.1 : Int)).wf = true := WalkArith.wf_i64 (by omega)
  have so : (⟨k.2.1.toArray⟩ : ByteArray).size ≤ maxLen := by show k.2.1.toArray.size ≤ _; simp [maxLen]; omega
  have st : (⟨k.2.2.toArray⟩ : ByteArray).size ≤ maxLen := by show k.2.2.toArray.size ≤ _; simp [maxLen]; omega
  simp [keyV, Value.formed, Tryz.underlying118, cells_key, cells_class, cells_str, Value.cells, Program.keyLits, Tryz.underlying116, Tryz.underlying9, wc, klb, so, st]

theorem keyV_inj {a b : Kb} (h : keyV a = keyV b) : a = b := by
  obtain ⟨c1, o1, t1⟩ := a
  obtain ⟨c2, o2, t2⟩ := b
  simp [keyV] at h
  obtain ⟨h2, h3, h4⟩ := h
  have e2 : c1 = c2 := by omega
  subst e2 h3 h4
  rfl

theorem klb_inj {a b : Kb} (ha : OkK a) (hb : OkK b) (h : klb a = klb b) : a = b :=
  keyV_inj (law_key.inj (keyOf_key a ha) (by rw [h]; exact keyOf_key b hb))

theorem klb_key (a : Kb) : WideAt.IsKeyLit (klb a) := trivial

/-- How a level reads. -/
def levR : Value → Option (DataW Unit × List MemPlace)
  | .int .i64 a => some (.lit (.int .i64 a), [])
  | _ => none
def levD (v : Nat) : DataW Unit := .lit (.int .i64 v)

theorem levR_mk (v : Nat) : levR (.int .i64 v) = some (levD v, []) := rfl
theorem levR_inv {u : Value} {v : Nat} {ps : List MemPlace} (h : levR u = some (levD v, ps)) : u = .int .i64 v := by
  unfold levR at h
  split at h
  · next a =>
    simp [levD] at h
    rw [h.1]
  · cases h

/-- The levels that are no nought: each bucket once. -/
structure OkV (lv : Lv) : Prop where
  key : ∀ x ∈ lv, OkK x.1
  pos : ∀ x ∈ lv, 0 < x.2 ∧ x.2 ≤ 1000000000000000
  apart : lv.Pairwise fun a b => a.1 ≠ b.1

/-- What a map of levels holds. -/
structure ReadsV (D : DataW Unit) (lv : Lv) : Prop where
  has : ∀ k, Maps.has D k = true ↔ ∃ x ∈ lv, klb x.1 = k
  at_ : ∀ x ∈ lv, ∀ z, D.atKey (klb x.1) z = levD x.2
  size : Maps.size D = lv.length

def OwnsV (w : World) (lb : Nat) (lv : Lv) : Prop := ∃ D, w.ownsMap Tryz.prog 118 levR lb lv.length D ∧ ReadsV D lv

theorem own_tight {w : World} {b n : Nat} {D : DataW Unit} (h : w.ownsMap Tryz.prog 118 levR b n D) : w.ownsMap Tryz.prog 118 levR b (Maps.size D) D := by
  obtain ⟨es, clock, h1, h2, h3, rfl⟩ := h
  refine ⟨es, clock, h1, h2, ?_, rfl⟩
  show es.size ≤ List.length _
  rw [length_sorted]; simp

theorem OwnsV.of {w : World} {b n : Nat} {D : DataW Unit} {lv : Lv} (h : w.ownsMap Tryz.prog 118 levR b n D) (hr : ReadsV D lv) : OwnsV w b lv := ⟨D, hr.size ▸ own_tight h, hr⟩

theorem OwnsV.lt {w : World} {b : Nat} {lv : Lv} (h : OwnsV w b lv) : b < w.heap.size := by obtain ⟨D, h, _⟩ := h; exact h.lt
theorem OwnsV.kept {w w' : World} {b : Nat} {lv : Lv} {row : Option Nat} (h : OwnsV w b lv) (hg : w.grownBy w' row) (hne : some b ≠ row) : OwnsV w' b lv := by obtain ⟨D, h, hr⟩ := h; exact ⟨D, h.kept hg hne, hr⟩

theorem ReadsV.perm {D : DataW Unit} {l1 l2 : Lv} (h : ReadsV D l1) (hp : l1.Perm l2) : ReadsV D l2 :=
  ⟨fun k => by rw [h.has]; exact ⟨fun ⟨x, hx, e⟩ => ⟨x, hp.mem_iff.1 hx, e⟩, fun ⟨x, hx, e⟩ => ⟨x, hp.mem_iff.2 hx, e⟩⟩, fun x hx => h.at_ x (hp.mem_iff.2 hx), h.size.trans hp.length_eq⟩

theorem ReadsV.empty : ReadsV (.map []) [] := ⟨fun k => by simp [Maps.has], by simp, rfl⟩

/-- The level of a bucket. -/
def levOf (lv : Lv) (k : Kb) : Nat := ((lv.find? fun x => x.1 == k).map (·.2)).getD 0

theorem levOf_mem {lv : Lv} (hp : lv.Pairwise fun a b => a.1 ≠ b.1) {x : Kb × Nat} (hx : x ∈ lv) : levOf lv x.1 = x.2 := by
  induction lv with
  | nil => simp at hx
  | cons y r ih =>
    obtain ⟨h1, h2⟩ := List.pairwise_cons.1 hp
    unfold levOf
    rcases List.mem_cons.1 hx with rfl | hx
    · simp
    · have : (y.1 == x.1) = false := by simpa using h1 x hx
      rw [List.find?_cons, this]
      exact ih h2 hx

theorem levOf_none {lv : Lv} {k : Kb} (h : ∀ x ∈ lv, x.1 ≠ k) : levOf lv k = 0 := by
  unfold levOf
  have : lv.find? (fun x => x.1 == k) = none := by rw [List.find?_eq_none]; intro x hx; simpa using h x hx
  rw [this]; rfl

theorem levOf_cases {lv : Lv} (hv : OkV lv) (k : Kb) : (levOf lv k = 0 ∧ ∀ x ∈ lv, x.1 ≠ k) ∨ ∃ x ∈ lv, x.1 = k ∧ levOf lv k = x.2 := by
  by_cases h : ∃ x ∈ lv, x.1 = k
  · obtain ⟨x, hx, rfl⟩ := h
    exact .inr ⟨x, hx, rfl, levOf_mem hv.apart hx⟩
  · have : ∀ x ∈ lv, x.1 ≠ k := fun x hx e => h ⟨x, hx, e⟩
    exact .inl ⟨levOf_none this, this⟩

theorem ReadsV.look {D : DataW Unit} {lv : Lv} (h : ReadsV D lv) (hv : OkV lv) {k : Kb} (hk : OkK k) : D.atKey (klb k) (levD 0) = levD (levOf lv k) := by
  rcases levOf_cases hv k with ⟨e, hn⟩ | ⟨x, hx, rfl, e⟩
  · rw [e]
    refine atKey_of_not_has ?_ _
    cases hh : Maps.has D (klb k) with
    | false => rfl
    | true =>
      obtain ⟨x, hx, e2⟩ := (h.has _).1 hh
      exact absurd (klb_inj (hv.key x hx) hk e2) (hn x hx)
  · rw [e]; exact h.at_ x hx _

theorem zero_int (w : World) : (zeroValue 3).run Tryz.prog w = .ok (.int .i64 0) w := by kernel_rfl

theorem look_lev {w : World} {b : Nat} {lv : Lv} (h : OwnsV w b lv) (hv : OkV lv) {k : Kb} (hk : OkK k) :
    (Instr.lookup 91 (.map (some b)) (keyV k) false).run Tryz.prog w = .ok (.int .i64 (levOf lv k : Nat)) w := by
  obtain ⟨D, h, hr⟩ := h
  obtain ⟨v, ps, hrun, hv2⟩ := h.lookup law_key Tryz.underlying91 (zero_int w) (levR_mk 0) (keyOf_key k hk)
  rw [hr.look hv hk] at hv2
  rw [hrun, levR_inv hv2]

/-- A level is set: of a bucket that is there, or of a new one. -/
def putV (lv : Lv) (k : Kb) (v : Nat) : Lv := lv.filter (fun x => !(x.1 == k)) ++ [(k, v)]

theorem putV_mem {lv : Lv} {k : Kb} {v : Nat} {x : Kb × Nat} : x ∈ putV lv k v ↔ (x ∈ lv ∧ x.1 ≠ k) ∨ x = (k, v) := by
  simp [putV]

theorem filter_len {lv : Lv} (hp : lv.Pairwise fun a b => a.1 ≠ b.1) {x : Kb × Nat} (hx : x ∈ lv) : (lv.filter (fun y => !(y.1 == x.1))).length + 1 = lv.length := by
  induction lv with
  | nil => simp at hx
  | cons y r ih =>
    obtain ⟨h1, h2⟩ := List.pairwise_cons.1 hp
    rcases List.mem_cons.1 hx with rfl | hx
    · have : r.filter (fun y => !(y.1 == x.1)) = r := List.filter_eq_self.2 fun z hz => by simpa using fun e => h1 z hz e.symm
      rw [List.filter_cons]
      simp [this]
    · have : (y.1 == x.1) = false := by simpa using h1 x hx
      rw [List.filter_cons]
      simp only [this, Bool.not_false, if_true, List.length_cons]
      rw [ih h2 hx]

theorem filter_none {lv : Lv} {k : Kb} (h : ∀ x ∈ lv, x.1 ≠ k) : lv.filter (fun y => !(y.1 == k)) = lv :=
  List.filter_eq_self.2 fun z hz => by simpa using h z hz

theorem ReadsV.put {D : DataW Unit} {lv : Lv} (h : ReadsV D lv) (hm : IsMap D) (ht : Tidy D) (hv : OkV lv) {k : Kb} (hk : OkK k) (v : Nat) : ReadsV (D.put (klb k) (levD v)) (putV lv k v) := by
  refine ⟨fun q => ?_, fun x hx z => ?_, ?_⟩
  · by_cases e : q = klb k
    · subst e
      rw [has_put_same hm (klb_key k)]
      simp only [true_iff]
      exact ⟨(k, v), putV_mem.2 (.inr rfl), rfl⟩
    · rw [has_put_other e, h.has]
      constructor
      · rintro ⟨x, hx, e2⟩
        exact ⟨x, putV_mem.2 (.inl ⟨hx, fun e3 => e (by rw [← e2, e3])⟩), e2⟩
      · rintro ⟨x, hx, e2⟩
        rcases putV_mem.1 hx with ⟨h1, _⟩ | rfl
        · exact ⟨x, h1, e2⟩
        · exact absurd e2.symm e
  · rcases putV_mem.1 hx with ⟨h1, h2⟩ | rfl
    · rw [atKey_put_other (fun e => h2 (klb_inj (hv.key x h1) hk e))]
      exact h.at_ x h1 z
    · exact atKey_put_same hm (klb_key k) _ _
  · rw [size_put ht, h.size]
    rcases levOf_cases hv k with ⟨_, hn⟩ | ⟨x, hx, rfl, _⟩
    · have : Maps.has D (klb k) = false := by
        cases hh : Maps.has D (klb k) with
        | false => rfl
        | true =>
          obtain ⟨x, hx, e2⟩ := (h.has _).1 hh
          exact absurd (klb_inj (hv.key x hx) hk e2) (hn x hx)
      rw [this]
      simp [putV, filter_none hn]
    · rw [(h.has _).2 ⟨x, hx, rfl⟩]
      have := filter_len hv.apart hx
      simp [putV]
      omega

theorem OkV.put {lv : Lv} (hv : OkV lv) {k : Kb} (hk : OkK k) {v : Nat} (h0 : 0 < v) (h1 : v ≤ 1000000000000000) : OkV (putV lv k v) := by
  refine ⟨fun x hx => ?_, fun x hx => ?_, ?_⟩
  · rcases putV_mem.1 hx with ⟨h, _⟩ | rfl
    · exact hv.key x h
    · exact hk
  · rcases putV_mem.1 hx with ⟨h, _⟩ | rfl
    · exact hv.pos x h
    · exact ⟨h0, h1⟩
  · unfold putV
    rw [List.pairwise_append]
    refine ⟨hv.apart.filter _, by simp, fun a ha b hb => ?_⟩
    simp at ha hb
    subst hb
    exact ha.2

theorem levOf_put (lv : Lv) (k : Kb) (v : Nat) (q : Kb) (hv : OkV lv) (hok : OkV (putV lv k v)) : levOf (putV lv k v) q = if q = k then v else levOf lv q := by
  by_cases e : q = k
  · subst e
    rw [if_pos rfl]
    exact levOf_mem hok.apart (x := (q, v)) (putV_mem.2 (.inr rfl))
  · rw [if_neg e]
    rcases levOf_cases hv q with ⟨h1, h2⟩ | ⟨x, hx, rfl, h1⟩
    · rw [h1]
      refine levOf_none fun x hx => ?_
      rcases putV_mem.1 hx with ⟨h, _⟩ | rfl
      · exact h2 x h
      · exact fun e2 => e e2.symm
    · rw [h1]
      exact levOf_mem hok.apart (putV_mem.2 (.inl ⟨hx, e⟩))

theorem put_len (lv : Lv) (hv : OkV lv) (k : Kb) (v : Nat) : (putV lv k v).length = lv.length + if levOf lv k = 0 then 1 else 0 := by
  rcases levOf_cases hv k with ⟨h1, h2⟩ | ⟨x, hx, rfl, h1⟩
  · rw [h1]; simp [putV, filter_none h2]
  · have := filter_len hv.apart hx
    have hp := (hv.pos x hx).1
    rw [h1, if_neg (by omega)]
    simp [putV]; omega

end Go.Proofs.YthmhfilkgggagaaGreatDoor

/-
  subjects: what a table speaks of, sorted as the canonical text is.
  subjects: what a table speaks of, sorted as the canonical text is.
-/
import Derived.Test.YthmhfilkgggagaaGreatDoorOrder
import Derived.Test.YthmhfilkgggagaaGreatDoorCanon
import Derived.Test.YthmhfilkgggagaaGreatDoorSort
import Derived.Maps.RangeWalk
import Derived.Sort.OwnSorted
namespace Go.Proofs.YthmhfilkgggagaaGreatDoor
open Go.RowKit Go.Maps Go.Sort

def subjCells (s : Sl.Subj) : List Value := [.int .i64 s.kind, .int .i64 s.cls, .string ⟨s.org.toArray⟩, .string ⟨s.ten.toArray⟩]
def subjAll (l : List Sl.Subj) : List Value := l.flatMap subjCells

theorem has_tabD_any (l : List (Sl.Subj × Sl.Lim)) (k : Lit) : Maps.has (tabD l) k = true ↔ ∃ x ∈ l, kl x.1 = k := by
  refine snoc_ind (p := fun l => Maps.has (tabD l) k = true ↔ ∃ x ∈ l, kl x.1 = k) ?_ ?_ l
  · simp [tabD, Maps.has]
  · intro l x ih
    rw [tabD_snoc]
    by_cases e : k = kl x.1
    · subst e
      rw [has_put_same (tabD_isMap l) (kl_key _)]
      simp
    · rw [has_put_other e, ih]
      constructor
      · rintro ⟨y, hy, h⟩; exact ⟨y, by simp [hy], h⟩
      · rintro ⟨y, hy, h⟩
        rcases List.mem_append.1 hy with hy | hy
        · exact ⟨y, hy, h⟩
        · simp at hy; subst hy; exact absurd h.symm e

/-- Which are collected, which are still to come. -/
structure Coll (l : List (Sl.Subj × Sl.Lim)) (left : Lit → Bool) (acc : List Sl.Subj) : Prop where
  rest : ∃ r, (acc ++ r).Perm (l.map (·.1)) ∧ ∀ k, left k = true ↔ ∃ s ∈ r, kl s = k

theorem Coll.start (l : List (Sl.Subj × Sl.Lim)) : Coll l (Maps.has (tabD l)) [] :=
  ⟨l.map (·.1), by simp, fun k => by rw [has_tabD_any]; simp⟩

theorem nodup_subj {l : List (Sl.Subj × Sl.Lim)} (h : OkL l) : (l.map (·.1)).Nodup := by
  rw [List.nodup_iff_pairwise_ne, List.pairwise_map]; exact h.2

theorem Coll.step {l : List (Sl.Subj × Sl.Lim)} {left : Lit → Bool} {acc : List Sl.Subj} (hl : OkL l) (h : Coll l left acc) {k : Lit} (hk : left k = true) :
    ∃ x ∈ l, kl x.1 = k ∧ Coll l (fun z => left z && !z.sameKey k) (acc ++ [x.1]) := by
  obtain ⟨r, hp, hr⟩ := h
  obtain ⟨s, hs, rfl⟩ := (hr k).1 hk
  have hms : s ∈ l.map (·.1) := hp.mem_iff.1 (by simp [hs])
  obtain ⟨x, hx, rfl⟩ := List.mem_map.1 hms
  refine ⟨x, hx, rfl, ?_⟩
  obtain ⟨r1, r2, rfl⟩ := List.append_of_mem hs
  have hnd : (acc ++ (r1 ++ x.1 :: r2)).Nodup := hp.nodup_iff.2 (nodup_subj hl)
  have hok : ∀ t ∈ acc ++ (r1 ++ x.1 :: r2), OkS t := fun t ht => by
    obtain ⟨y, hy, rfl⟩ := List.mem_map.1 (hp.mem_iff.1 ht)
    exact hl.1 y hy
  refine ⟨r1 ++ r2, ?_, ?_⟩
  · refine List.Perm.trans ?_ hp
    rw [List.append_assoc]
    refine List.Perm.append_left _ ?_
    show (x.1 :: (r1 ++ r2)).Perm _
    exact List.perm_middle.symm
  · intro k'
    have hx1 := hok x.1 (by simp)
    have hnr : x.1 ∉ r1 ++ r2 := by
      have h1 : (r1 ++ x.1 :: r2).Nodup := (List.nodup_append.1 hnd).2.1
      have h2 := (List.perm_middle (a := x.1) (l₁ := r1) (l₂ := r2)).nodup_iff.1 h1
      exact (List.nodup_cons.1 h2).1
    rw [Bool.and_eq_true, hr k', Bool.not_eq_true']
    constructor
    · rintro ⟨⟨t, ht, rfl⟩, hne⟩
      refine ⟨t, ?_, rfl⟩
      have : t ≠ x.1 := by
        intro e; subst e
        rw [WideAt.sameKey_self (kl_key _)] at hne; cases hne
      simp at ht ⊢
      rcases ht with ht | ht | ht
      · exact .inl ht
      · exact absurd ht this
      · exact .inr ht
    · rintro ⟨t, ht, rfl⟩
      have hto := hok t (by simp at ht ⊢; rcases ht with h | h; exact .inr (.inl h); exact .inr (.inr (.inr h)))
      refine ⟨⟨t, by simp at ht ⊢; rcases ht with h | h; exact .inl h; exact .inr (.inr h), rfl⟩, ?_⟩
      exact sameKey_ne (fun e => hnr ((kl_inj hto hx1 e) ▸ ht))

theorem Coll.done {l : List (Sl.Subj × Sl.Lim)} {left : Lit → Bool} {acc : List Sl.Subj} (h : Coll l left acc) (h0 : ∀ k, left k = false) : acc.Perm (l.map (·.1)) := by
  obtain ⟨r, hp, hr⟩ := h
  cases r with
  | nil => simpa using hp
  | cons s r =>
    have := (hr (kl s)).2 ⟨s, by simp, rfl⟩
    rw [h0] at this; cases this

theorem Coll.len {l : List (Sl.Subj × Sl.Lim)} {left : Lit → Bool} {acc : List Sl.Subj} (h : Coll l left acc) : acc.length ≤ l.length := by
  obtain ⟨r, hp, _⟩ := h
  have := hp.length_eq
  simp at this; omega

theorem size_tabD (l : List (Sl.Subj × Sl.Lim)) : Maps.size (tabD l) ≤ l.length := by
  refine snoc_ind (p := fun l => Tidy (tabD l) ∧ Maps.size (tabD l) ≤ l.length) ⟨tidy_empty, by simp [tabD, Maps.size]⟩ ?_ l |>.2
  intro l x ⟨ht, ih⟩
  rw [tabD_snoc]
  refine ⟨ht.put (kl_key _) _, ?_⟩
  rw [size_put ht]
  split <;> simp <;> omega

theorem info_subj : (Tryz.prog.info? 151).map (fun i => (i.zero, i.size, i.bytes)) = some (some (.agg #[.int .i64 0, .int .i64 0, .string ⟨#[]⟩, .string ⟨#[]⟩]), 4, 48) := by kernel_rfl

theorem compare_enters : ∀ args w, (callFunc 150 args).run Tryz.prog w = .ok (.enter 150 args) w := enters_of Tryz.func150 (by kernel_rfl) rfl

theorem subjV_cells (s : Sl.Subj) : subjV s = .agg (subjCells s).toArray := rfl

theorem compare_lays [Inhabited Sl.Subj] (blk off size : Nat) (w : World) : CmpLays Tryz.prog 150 #[] subjCells 4 cmpSubj blk off size w :=
  fun _ _ _ _ x y => compare_any x y _

theorem flat_at (l : List Sl.Subj) : ∀ (i : Nat) (hi : i < l.length) (c : Nat), c < 4 → (subjAll l)[i * 4 + c]? = some (subjCells l[i])[c]! := by
  induction l with
  | nil => intro i hi; simp at hi
  | cons a r ih =>
    intro i hi c hc
    have e : subjAll (a :: r) = subjCells a ++ subjAll r := rfl
    cases i with
    | zero =>
      rw [e, List.getElem?_append_left (by simp [subjCells]; omega)]
      match c, hc with
      | 0, _ => rfl
      | 1, _ => rfl
      | 2, _ => rfl
      | 3, _ => rfl
    | succ i =>
      rw [e, List.getElem?_append_right (by simp [subjCells]; omega)]
      have e2 : (i + 1) * 4 + c - (subjCells a).length = i * 4 + c := by simp [subjCells]; omega
      rw [e2, ih i (by simpa using hi) c hc]
      simp

theorem subjAll_len (l : List Sl.Subj) : (subjAll l).length = l.length * 4 := by
  induction l with
  | nil => rfl
  | cons a r ih => have e : subjAll (a :: r) = subjCells a ++ subjAll r := rfl; rw [e, List.length_append, ih]; simp [subjCells]; omega

theorem holdsK_of [Inhabited Sl.Subj] (w : World) (g : Nat) (cur : Array Value) (e : TypeId) (l : List Sl.Subj) (hb : w.heap[g]? = some (.cells cur e (0, 0))) (ht : cur.toList.take (l.length * 4) = subjAll l) : HoldsK subjCells 4 w g 0 l.toArray := by
  intro j hj
  rw [size_flatK] at hj
  have hj' : j < l.length * 4 := by simpa using hj
  refine ⟨?_, by simp [World.frozen?, hb]⟩
  rw [get_flatK _ _ _ _ hj]
  have hd : j / 4 < l.length := by omega
  have h1 := flat_at l (j / 4) hd (j % 4) (by omega)
  have e1 : j / 4 * 4 + j % 4 = j := by omega
  rw [e1, ← ht, List.getElem?_take_of_lt hj'] at h1
  have ea : l.toArray[j / 4]! = l[j / 4] := by
    rw [getElem!_pos l.toArray (j / 4) (by simpa using hd)]
    simp
  rw [ea, Nat.zero_add]
  simp only [World.cell?, hb, id]
  rw [← Array.getElem?_toList]; exact h1

/-- A list of subjects in memory, at block g. -/
def SubjsAt (w : World) (g : Nat) (l : List Sl.Subj) : Prop := ∀ i (hi : i < l.length) (c : Nat), c < 4 → w.cell? ⟨g, i * 4 + c, none⟩ = some (subjCells l[i])[c]!

theorem subjs_sorted [Inhabited Sl.Subj] (w : World) (g n : Nat) (os : Array Obj) (l l' : List Sl.Subj) (hH : HoldsK subjCells 4 w g 0 l.toArray) (hg : g < w.heap.size) (hl : l'.length = l.length) :
    SubjsAt (sortWorldK subjCells 4 w g 0 n l'.toArray os) g l' := by
  intro i hi c hc
  have h1 : HoldsK subjCells 4 (putRowK subjCells 4 (Sort.ahead w n) g 0 l'.toArray) g 0 l'.toArray := holdsK_putRowK (enc := subjCells) (k := 4) (Sort.ahead w n) g 0 l.toArray l'.toArray hH (by simp [hl])
  have h2 := holdsK_grow (enc := subjCells) (k := 4) (putRowK subjCells 4 (Sort.ahead w n) g 0 l'.toArray) os g 0 l'.toArray (by simpa [putRowK, putRow, mapBlock, Sort.ahead] using hg) h1
  have h3 := (h2.cell (i := i) (c := c) (by simpa using hi) hc).1
  rw [Nat.zero_add] at h3
  rw [show sortWorldK subjCells 4 w g 0 n l'.toArray os = grow (putRowK subjCells 4 (Sort.ahead w n) g 0 l'.toArray) os from rfl, h3]
  have ea : l'.toArray[i]! = l'[i] := by
    rw [getElem!_pos l'.toArray i (by simpa using hi)]
    simp
  rw [ea]

theorem grown_sortedK [Inhabited Sl.Subj] (w : World) (g n : Nat) (os : Array Obj) (d : Array Sl.Subj) : w.grownBy (sortWorldK subjCells 4 w g 0 n d os) (some g) := by
  refine ⟨rfl, rfl, rfl, by simp [sortWorldK, putRowK, putRow, mapBlock, Sort.ahead], fun k hk hne => ?_⟩
  have : g ≠ k := fun e => hne (by rw [e])
  show (grow _ os).heap[k]? = _
  unfold grow
  rw [Array.getElem?_append_left (by simpa [putRowK, putRow, mapBlock, Sort.ahead] using hk)]
  simp [putRowK, putRow, mapBlock, Sort.ahead, Array.getElem?_modify, this]

end Go.Proofs.YthmhfilkgggagaaGreatDoor

namespace Go.Proofs.YthmhfilkgggagaaGreatDoor
open Go.RowKit Go.Maps Go.Sort

theorem look_mem : ∀ {l : List (Sl.Subj × Sl.Lim)} {x : Sl.Subj × Sl.Lim}, l.Pairwise (fun a b => a.1 ≠ b.1) → x ∈ l → look l x.1 = some x.2
  | y :: r, x, hp, hx => by
    obtain ⟨h1, h2⟩ := List.pairwise_cons.1 hp
    unfold look
    rcases List.mem_cons.1 hx with rfl | hx
    · have : Sl.sameS x.1 x.1 = true := (Sl.sameS_iff _ _).2 rfl
      simp [this]
    · rw [List.find?_cons, same_not (h1 x hx)]
      exact look_mem h2 hx

theorem block_sortedK [Inhabited Sl.Subj] (w : World) (g n : Nat) (os : Array Obj) (d : Array Sl.Subj) {cur : Array Value} {e : TypeId} {fr : Nat × Nat} (hb : w.heap[g]? = some (.cells cur e fr)) :
    ∃ cur', (sortWorldK subjCells 4 w g 0 n d os).heap[g]? = some (.cells cur' e fr) := by
  refine ⟨putCells id 0 (flatK subjCells 4 d) cur, ?_⟩
  have hg : g < w.heap.size := (Array.getElem?_eq_some_iff.1 hb).1
  show (grow _ os).heap[g]? = _
  unfold grow
  rw [Array.getElem?_append_left (by simpa [putRowK, putRow, mapBlock, Sort.ahead] using hg)]
  simp [putRowK, putRow, mapBlock, Sort.ahead, Array.getElem?_modify, hb, onCells]

/-- The step of a range over a table's map: the key and the limit are those of an entry. -/
theorem next_subj {w : World} {ops : Array Oper} {rest : List Oper} {o : Oper} {a : Act} {Q : Exit → Act → World → Prop} (hg : o.guard = none) (it : Operand) (hop : o.op = Op.next it false) (b r n : Nat) (l : List (Sl.Subj × Sl.Lim)) (left : Lit → Bool) (cnt : Nat)
    (hit : a.eval it = .pointer (some ⟨r, 0, none⟩)) (h : w.ranges Tryz.prog 151 limR b r n (tabD l) left cnt) (hl : OkL l) (acc : List Sl.Subj) (hC : Coll l left acc)
    (hDone : (∀ k, left k = false) → wpList Tryz.prog ops Q rest (a.put o.dst (.tuple #[.bool false])) w)
    (hMore : ∀ (x : Sl.Subj × Sl.Lim) (left' : Lit → Bool) (w' : World) (cnt' : Nat), Coll l left' (acc ++ [x.1]) → OkS x.1 → w'.ranges Tryz.prog 151 limR b r n (tabD l) left' cnt' → cnt' < cnt →
      w.grownBy w' (some r) → (Instr.entry (.pointer (some ⟨r, 0, none⟩))).run Tryz.prog w' = .ok (.tuple #[.agg #[.int .i64 x.1.kind, .int .i64 x.1.cls, .string ⟨x.1.org.toArray⟩, .string ⟨x.1.ten.toArray⟩], .agg #[.int .i64 x.2.rate, .int .i64 x.2.burst]]) w' →
      wpList Tryz.prog ops Q rest (a.put o.dst (.tuple #[.bool true, .agg #[.int .i64 x.1.kind, .int .i64 x.1.cls, .string ⟨x.1.org.toArray⟩, .string ⟨x.1.ten.toArray⟩], .agg #[.int .i64 x.2.rate, .int .i64 x.2.burst]])) w') :
    wpList Tryz.prog ops Q (o :: rest) a w := by
  refine wpList_plain hg fun K' hK' => ?_
  unfold Oper.wp
  rcases h.next law_subj o.type with ⟨h0, hl0, hrun⟩ | ⟨key, v, k, y, w', cnt', hkey, hlk, hv, hat, hrun, hrg, hlt, hgr, hsz, hen⟩
  · simp [execOp, hop, hit, hrun, Result.andThen]
    exact hK' _ _ (hDone hl0)
  · obtain ⟨x, hx, hkx, hC'⟩ := Coll.step hl hC hlk
    have hox := hl.1 x hx
    have e1 : key = subjV x.1 := law_subj.inj hkey (by rw [← hkx]; exact keyOf_subj x.1 hox)
    have e2 : v = limV x.2 := by
      have h1 := at_tabD l x.1 hox hl
      rw [hkx, hat] at h1
      have h2 : look l x.1 = some x.2 := look_mem hl.2 hx
      rw [h2] at h1
      obtain ⟨y1, y2⟩ := y
      simp only [Option.getD_some] at h1
      subst h1
      exact limR_inv hv
    subst e1 e2
    simp [execOp, hop, hit, hrun, Result.andThen]
    exact hK' _ _ (hMore x _ w' cnt' hC' hox hrg hlt hgr hen)

set_option maxRecDepth 100000 in
set_option maxHeartbeats 1000000 in
theorem subjects_any (l : List (Sl.Subj × Sl.Lim)) (tb mb n : Nat) (w : World) (hc : w.cell? ⟨tb, 0, none⟩ = some (.map (some mb))) (hown : w.ownsMap Tryz.prog 151 limR mb n (tabD l)) (hl : OkL l) (hn : l.length ≤ 2001) :
    Calls Tryz.prog 103 #[.pointer (some ⟨tb, 0, none⟩)] w fun e w' => ∃ g cap, e = .returned (.slice (some ⟨g, 0, none⟩) l.length cap) ∧ SubjsAt w' g (sortS (l.map (·.1))) ∧ w.heap.size ≤ g ∧ (∃ cur, w'.heap[g]? = some (.cells cur 151 (0, 0))) ∧ Below w.heap.size w w' := by
  haveI : Inhabited Sl.Subj := ⟨noSubj⟩
  obtain ⟨i0, hi, hz0, hz1, hz2⟩ := info_parts info_subj
  have htb := cell_lt hc
  have hmb := hown.lt
  have hsz := size_tabD l
  have HL := hide hl; clear hl
  go_enter Tryz.func103, Tryz.ntmps103
  go_wp2_with (first
    | (at_len; refine wpList_len_own _ rfl _ 109 rfl 151 27 Tryz.underlying109 limR mb n (tabD l) rfl hown ?_)
    | (at_make; refine wpList_make_own _ rfl _ _ 197 rfl w.heap.size 151 i0 (.agg #[.int .i64 0, .int .i64 0, .string ⟨#[]⟩, .string ⟨#[]⟩]) 4 Tryz.underlying197 hi hz0 hz1 _ _ _ (Maps.size (tabD l)) rfl rfl rfl (by rw [hz2]; omega) (by unfold maxLen; omega) (Nat.le_refl _) ?_; intro w1 hrow1 hg1; have hc1 : w1.cell? ⟨tb, 0, none⟩ = some (.map (some mb)) := (World.cell?_of_block (a := ⟨tb, 0, none⟩) (hg1.block tb htb (by simp))).trans hc)
    | (at_range; refine wpList_range_own _ rfl _ 109 rfl 151 27 law_subj Tryz.underlying109 limR mb n (tabD l) rfl (hown.kept hg1 (by simp)) ?_; intro w0 hrg0 hg0 hs0))
  go_frame
  go_loopw [3] (fun v wr => ∃ (left : Lit → Bool) (cnt : Nat) (acc : List Sl.Subj), wr.ranges Tryz.prog 151 limR mb w1.heap.size n (tabD l) left cnt ∧
      wr.ownsRow w.heap.size 151 4 v acc.length (subjAll acc) ∧ v ≠ .slice none 0 0 ∧ Coll l left acc ∧ Below w.heap.size w wr)
    (fun _ wr => wr.rangeLeft mb w1.heap.size)
  case atStart =>
    exact ⟨_, _, [], hrg0, hrow1.kept hg0 (Or.inr (by simp [Value.ownBlock])), by simp, Coll.start l,
      ((Below.refl _ _).grown hg1 (Nat.le_refl _) (fun j hj => by cases hj)).grown hg0 hg1.size (fun j hj => by cases hj)⟩
  case round =>
    obtain ⟨left, cnt, acc, hrg, hrow, hnn, hC, hnx⟩ := hrel
    have hlen := hC.len
    have HC := hide hC; clear hC
    go_wp2_with (at_next; refine next_subj rfl _ rfl mb w1.heap.size n l left cnt rfl hrg (unhide HL) acc (unhide HC) ?_ ?_)
    · intro hl0
      rcases hrow.2 with ⟨hnil, _⟩ | ⟨g, cap, cur, rfl, hbase, hb, h1, h2, h3, h4⟩
      · exact absurd hnil hnn
      have hperm := (unhide HC).done hl0
      have hle : acc.length = l.length := by have := hperm.length_eq; simpa using this
      have hH := holdsK_of wr g cur _ acc hb h4
      have hgl : g < wr.heap.size := (Array.getElem?_eq_some_iff.1 hb).1
      have hcs := AnyQ.slices_SortFunc_total Tryz.sortSubj 4 Tryz.isAgg151 Tryz.sizeOf151 subjCells (fun _ => rfl) (fun x v hv => by simp [subjCells] at hv; rcases hv with rfl | rfl | rfl | rfl <;> rfl) cmpSubj swo_subj 150 #[] g 0 cap acc.toArray wr compare_enters (compare_lays g 0 _ wr) hH hgl (by simp; omega) tot_subj
      change Calls Tryz.prog 149 _ _ _ at hcs
      have esz : acc.toArray.size = acc.length := by simp
      have esort : (acc.toArray.toList.mergeSort fun x y => !(ltOf cmpSubj) y x) = sortS (l.map (·.1)) := by
        rw [← sortS_of_perm hperm]; rfl
      rw [esz, esort] at hcs
      have hsl : (sortS (l.map (·.1))).length = acc.length := by rw [(sortS_perm _).length_eq]; simp [hle]
      have HS := hide hcs; have HH := hide hH; have HLE := hide hle; have HSL := hide hsl
      clear hcs hH hperm hle h4 hrg hrow esz esort hsl
      go_wp2_with fail
      refine (unhide HS).mono ?_
      rintro e w' ⟨rfl, nn, os, rfl⟩
      have hgr := grown_sortedK wr g nn os (sortS (l.map (·.1))).toArray
      have hat := subjs_sorted wr g nn os acc (sortS (l.map (·.1))) (unhide HH) hgl (unhide HSL)
      have hbk := block_sortedK wr g nn os (sortS (l.map (·.1))).toArray hb
      have hg3 := hide hbk
      clear hbk
      have hb3 := hide (hnx.grown hgr hnx.size (fun j hj => by cases hj; exact hbase))
      have HAT := hide hat
      clear hgr hat
      generalize sortWorldK subjCells 4 wr g 0 nn (sortS (l.map (·.1))).toArray os = w3 at *
      go_wp2
      go_ret
      rw [← unhide HLE]
      exact ⟨g, cap, rfl, unhide HAT, hbase, unhide hg3, unhide hb3⟩
    · intro xs xl left' w2 cnt2 hC2 hox hrg2 hlt hg2 hen
      have hrow2 := hrow.kept hg2 (Or.inr (row_ne_iter hrow hrg).symm)
      have HC2 := hide hC2; have HOX := hide hox; clear hC2 hox
      go_wp2_with (at_builtin; refine wpList_append_own _ rfl _ _ 197 rfl w.heap.size 151 i0 (.agg #[.int .i64 0, .int .i64 0, .string ⟨#[]⟩, .string ⟨#[]⟩]) 4 48 Tryz.underlying197 hi hz0 hz1 hz2 rfl (by decide) _ _ _ rfl ((hrow2.alloc _).alloc _) ⟨w2.heap.size + 1, 0, none⟩ 1 1 (subjCells xs) rfl rfl (cell_new_at _ _ _ _ (by simp)) (by intro u hu; simp [subjCells] at hu; rcases hu with rfl | rfl | rfl | rfl <;> rfl) (by unfold maxLen; omega) (by omega) (by have := hnx.size; have := hg2.size; simp; omega) ?_; intro v' w3 hown' hg3 hnil3; go_frame)
      have hrg3 := ((hrg2.alloc _).alloc _).kept hg3 (row_ne_low hrow2 hmb) (row_ne_iter hrow2 hrg2)
      go_roundw
      case rel =>
        refine ⟨left', cnt2, acc ++ [xs], hrg3, ?_, fun hv' => by have := (hnil3.1 hv').2; omega, unhide HC2, ?_⟩
        · have e : subjAll (acc ++ [xs]) = subjAll acc ++ subjCells xs := by simp [subjAll]
          rw [e, List.length_append]; exact hown'
        · exact (((hnx.grown hg2 hnx.size (fun j hj => by cases hj; exact hg1.size)).alloc (by have := hnx.size; have := hg2.size; omega) _).alloc (by have := hnx.size; have := hg2.size; simp; omega) _).grown hg3 (by have := hnx.size; have := hg2.size; simp; omega) (own_base hrow2)
      case measure => rw [hrg3.left_eq, hrg.left_eq]; exact hlt

end Go.Proofs.YthmhfilkgggagaaGreatDoor

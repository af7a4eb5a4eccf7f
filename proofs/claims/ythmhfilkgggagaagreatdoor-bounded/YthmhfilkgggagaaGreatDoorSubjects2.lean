/-
  subjects: what a table speaks of, sorted as the canonical text is.
-/
import Derived.Test.YthmhfilkgggagaaGreatDoorSubjects
namespace Go.Proofs.YthmhfilkgggagaaGreatDoor
open Go.RowKit Go.Maps Go.Sort

theorem look_mem : ∀ {l : List (Sl.Subj × Sl.Lim)} {x : Sl.Subj × Sl.Lim}, l.Pairwise (fun a b => a.1 ≠ b.1) → x ∈ l → look l x.1 = some x.2
  | y :: r, x, hp, hx => by
    obtain ⟨h1, h2⟩ := List.pairwise_cons.1 hp
    unfold look
    rcases List.mem_cons.1 hx with rfl | hx
    · have : Sl.sameS x.1 x.1 = true := (Sl.sameS_iff _ _).2 rfl
      simp [this]
    · rw [List.find?_cons, same_not (h1 x hx)]
      exact look_mem h2 hx

theorem block_sortedK [Inhabited Sl.Subj] (w : World) (g n : Nat) (os : Array Obj) (d : Array Sl.Subj) {cur : Array Value} {e : TypeId} {fr : Nat × Nat} (hb : w.heap[g]? = some (.cells cur e fr)) :
    ∃ cur', (sortWorldK subjCells 4 w g 0 n d os).heap[g]? = some (.cells cur' e fr) := by
  refine ⟨putCells id 0 (flatK subjCells 4 d) cur, ?_⟩
  have hg : g < w.heap.size := (Array.getElem?_eq_some_iff.1 hb).1
  show (grow _ os).heap[g]? = _
  unfold grow
  rw [Array.getElem?_append_left (by simpa [putRowK, putRow, mapBlock, Sort.ahead] using hg)]
  simp [putRowK, putRow, mapBlock, Sort.ahead, Array.getElem?_modify, hb, onCells]

/-- The step of a range over a table's map: the key and the limit are those of an entry. -/
theorem next_subj {w : World} {ops : Array Oper} {rest : List Oper} {o : Oper} {a : Act} {Q : Exit → Act → World → Prop} (hg : o.guard = none) (it : Operand) (hop : o.op = Op.next it false) (b r n : Nat) (l : List (Sl.Subj × Sl.Lim)) (left : Lit → Bool) (cnt : Nat)
    (hit : a.eval it = .pointer (some ⟨r, 0, none⟩)) (h : w.ranges Tryz.prog 151 limR b r n (tabD l) left cnt) (hl : OkL l) (acc : List Sl.Subj) (hC : Coll l left acc)
    (hDone : (∀ k, left k = false) → wpList Tryz.prog ops Q rest (a.put o.dst (.tuple #[.bool false])) w)
    (hMore : ∀ (x : Sl.Subj × Sl.Lim) (left' : Lit → Bool) (w' : World) (cnt' : Nat), Coll l left' (acc ++ [x.1]) → OkS x.1 → w'.ranges Tryz.prog 151 limR b r n (tabD l) left' cnt' → cnt' < cnt →
      w.grownBy w' (some r) → (Instr.entry (.pointer (some ⟨r, 0, none⟩))).run Tryz.prog w' = .ok (.tuple #[.agg #[.int .i64 x.1.kind, .int .i64 x.1.cls, .string ⟨x.1.org.toArray⟩, .string ⟨x.1.ten.toArray⟩], .agg #[.int .i64 x.2.rate, .int .i64 x.2.burst]]) w' →
      wpList Tryz.prog ops Q rest (a.put o.dst (.tuple #[.bool true, .agg #[.int .i64 x.1.kind, .int .i64 x.1.cls, .string ⟨x.1.org.toArray⟩, .string ⟨x.1.ten.toArray⟩], .agg #[.int .i64 x.2.rate, .int .i64 x.2.burst]])) w') :
    wpList Tryz.prog ops Q (o :: rest) a w := by
  refine wpList_plain hg fun K' hK' => ?_
  unfold Oper.wp
  rcases h.next law_subj o.type with ⟨h0, hl0, hrun⟩ | ⟨key, v, k, y, w', cnt', hkey, hlk, hv, hat, hrun, hrg, hlt, hgr, hsz, hen⟩
  · simp [execOp, hop, hit, hrun, Result.andThen]
    exact hK' _ _ (hDone hl0)
  · obtain ⟨x, hx, hkx, hC'⟩ := Coll.step hl hC hlk
    have hox := hl.1 x hx
    have e1 : key = subjV x.1 := law_subj.inj hkey (by rw [← hkx]; exact keyOf_subj x.1 hox)
    have e2 : v = limV x.2 := by
      have h1 := at_tabD l x.1 hox hl
      rw [hkx, hat] at h1
      have h2 : look l x.1 = some x.2 := look_mem hl.2 hx
      rw [h2] at h1
      obtain ⟨y1, y2⟩ := y
      simp only [Option.getD_some] at h1
      subst h1
      exact limR_inv hv
    subst e1 e2
    simp [execOp, hop, hit, hrun, Result.andThen]
    exact hK' _ _ (hMore x _ w' cnt' hC' hox hrg hlt hgr hen)

set_option maxRecDepth 100000 in
set_option maxHeartbeats 1000000 in
theorem subjects_any (l : List (Sl.Subj × Sl.Lim)) (tb mb n : Nat) (w : World) (hc : w.cell? ⟨tb, 0, none⟩ = some (.map (some mb))) (hown : w.ownsMap Tryz.prog 151 limR mb n (tabD l)) (hl : OkL l) (hn : l.length ≤ 2001) :
    Calls Tryz.prog 103 #[.pointer (some ⟨tb, 0, none⟩)] w fun e w' => ∃ g cap, e = .returned (.slice (some ⟨g, 0, none⟩) l.length cap) ∧ SubjsAt w' g (sortS (l.map (·.1))) ∧ w.heap.size ≤ g ∧ (∃ cur, w'.heap[g]? = some (.cells cur 151 (0, 0))) ∧ Below w.heap.size w w' := by
  haveI : Inhabited Sl.Subj := ⟨noSubj⟩
  obtain ⟨i0, hi, hz0, hz1, hz2⟩ := info_parts info_subj
  have htb := cell_lt hc
  have hmb := hown.lt
  have hsz := size_tabD l
  have HL := hide hl; clear hl
  go_enter Tryz.func103, Tryz.ntmps103
  go_wp2_with (first
    | (at_len; refine wpList_len_own _ rfl _ 109 rfl 151 27 Tryz.underlying109 limR mb n (tabD l) rfl hown ?_)
    | (at_make; refine wpList_make_own _ rfl _ _ 197 rfl w.heap.size 151 i0 (.agg #[.int .i64 0, .int .i64 0, .string ⟨#[]⟩, .string ⟨#[]⟩]) 4 Tryz.underlying197 hi hz0 hz1 _ _ _ (Maps.size (tabD l)) rfl rfl rfl (by rw [hz2]; omega) (by unfold maxLen; omega) (Nat.le_refl _) ?_; intro w1 hrow1 hg1; have hc1 : w1.cell? ⟨tb, 0, none⟩ = some (.map (some mb)) := (World.cell?_of_block (a := ⟨tb, 0, none⟩) (hg1.block tb htb (by simp))).trans hc)
    | (at_range; refine wpList_range_own _ rfl _ 109 rfl 151 27 law_subj Tryz.underlying109 limR mb n (tabD l) rfl (hown.kept hg1 (by simp)) ?_; intro w0 hrg0 hg0 hs0))
  go_frame
  go_loopw [3] (fun v wr => ∃ (left : Lit → Bool) (cnt : Nat) (acc : List Sl.Subj), wr.ranges Tryz.prog 151 limR mb w1.heap.size n (tabD l) left cnt ∧
      wr.ownsRow w.heap.size 151 4 v acc.length (subjAll acc) ∧ v ≠ .slice none 0 0 ∧ Coll l left acc ∧ Below w.heap.size w wr)
    (fun _ wr => wr.rangeLeft mb w1.heap.size)
  case atStart =>
    exact ⟨_, _, [], hrg0, hrow1.kept hg0 (Or.inr (by simp [Value.ownBlock])), by simp, Coll.start l,
      ((Below.refl _ _).grown hg1 (Nat.le_refl _) (fun j hj => by cases hj)).grown hg0 hg1.size (fun j hj => by cases hj)⟩
  case round =>
    obtain ⟨left, cnt, acc, hrg, hrow, hnn, hC, hnx⟩ := hrel
    have hlen := hC.len
    have HC := hide hC; clear hC
    go_wp2_with (at_next; refine next_subj rfl _ rfl mb w1.heap.size n l left cnt rfl hrg (unhide HL) acc (unhide HC) ?_ ?_)
    · intro hl0
      rcases hrow.2 with ⟨hnil, _⟩ | ⟨g, cap, cur, rfl, hbase, hb, h1, h2, h3, h4⟩
      · exact absurd hnil hnn
      have hperm := (unhide HC).done hl0
      have hle : acc.length = l.length := by have := hperm.length_eq; simpa using this
      have hH := holdsK_of wr g cur _ acc hb h4
      have hgl : g < wr.heap.size := (Array.getElem?_eq_some_iff.1 hb).1
      have hcs := AnyQ.slices_SortFunc_total Tryz.sortSubj 4 Tryz.isAgg151 Tryz.sizeOf151 subjCells (fun _ => rfl) (fun x v hv => by simp [subjCells] at hv; rcases hv with rfl | rfl | rfl | rfl <;> rfl) cmpSubj swo_subj 150 #[] g 0 cap acc.toArray wr compare_enters (compare_lays g 0 _ wr) hH hgl (by simp; omega) tot_subj
      change Calls Tryz.prog 149 _ _ _ at hcs
      have esz : acc.toArray.size = acc.length := by simp
      have esort : (acc.toArray.toList.mergeSort fun x y => !(ltOf cmpSubj) y x) = sortS (l.map (·.1)) := by
        rw [← sortS_of_perm hperm]; rfl
      rw [esz, esort] at hcs
      have hsl : (sortS (l.map (·.1))).length = acc.length := by rw [(sortS_perm _).length_eq]; simp [hle]
      have HS := hide hcs; have HH := hide hH; have HLE := hide hle; have HSL := hide hsl
      clear hcs hH hperm hle h4 hrg hrow esz esort hsl
      go_wp2_with fail
      refine (unhide HS).mono ?_
      rintro e w' ⟨rfl, nn, os, rfl⟩
      have hgr := grown_sortedK wr g nn os (sortS (l.map (·.1))).toArray
      have hat := subjs_sorted wr g nn os acc (sortS (l.map (·.1))) (unhide HH) hgl (unhide HSL)
      have hbk := block_sortedK wr g nn os (sortS (l.map (·.1))).toArray hb
      have hg3 := hide hbk
      clear hbk
      have hb3 := hide (hnx.grown hgr hnx.size (fun j hj => by cases hj; exact hbase))
      have HAT := hide hat
      clear hgr hat
      generalize sortWorldK subjCells 4 wr g 0 nn (sortS (l.map (·.1))).toArray os = w3 at *
      go_wp2
      go_ret
      rw [← unhide HLE]
      exact ⟨g, cap, rfl, unhide HAT, hbase, unhide hg3, unhide hb3⟩
    · intro xs xl left' w2 cnt2 hC2 hox hrg2 hlt hg2 hen
      have hrow2 := hrow.kept hg2 (Or.inr (row_ne_iter hrow hrg).symm)
      have HC2 := hide hC2; have HOX := hide hox; clear hC2 hox
      go_wp2_with (at_builtin; refine wpList_append_own _ rfl _ _ 197 rfl w.heap.size 151 i0 (.agg #[.int .i64 0, .int .i64 0, .string ⟨#[]⟩, .string ⟨#[]⟩]) 4 48 Tryz.underlying197 hi hz0 hz1 hz2 rfl (by decide) _ _ _ rfl ((hrow2.alloc _).alloc _) ⟨w2.heap.size + 1, 0, none⟩ 1 1 (subjCells xs) rfl rfl (cell_new_at _ _ _ _ (by simp)) (by intro u hu; simp [subjCells] at hu; rcases hu with rfl | rfl | rfl | rfl <;> rfl) (by unfold maxLen; omega) (by omega) (by have := hnx.size; have := hg2.size; simp; omega) ?_; intro v' w3 hown' hg3 hnil3; go_frame)
      have hrg3 := ((hrg2.alloc _).alloc _).kept hg3 (row_ne_low hrow2 hmb) (row_ne_iter hrow2 hrg2)
      go_roundw
      case rel =>
        refine ⟨left', cnt2, acc ++ [xs], hrg3, ?_, fun hv' => by have := (hnil3.1 hv').2; omega, unhide HC2, ?_⟩
        · have e : subjAll (acc ++ [xs]) = subjAll acc ++ subjCells xs := by simp [subjAll]
          rw [e, List.length_append]; exact hown'
        · exact (((hnx.grown hg2 hnx.size (fun j hj => by cases hj; exact hg1.size)).alloc (by have := hnx.size; have := hg2.size; omega) _).alloc (by have := hnx.size; have := hg2.size; simp; omega) _).grown hg3 (by have := hnx.size; have := hg2.size; simp; omega) (own_base hrow2)
      case measure => rw [hrg3.left_eq, hrg.left_eq]; exact hlt

end Go.Proofs.YthmhfilkgggagaaGreatDoor

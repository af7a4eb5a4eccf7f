/-
  writeText: the canonical text is laid into the table, and nothing else turns.
  writeText: the canonical text is laid into the table, and nothing else turns.
-/
import Derived.Test.YthmhfilkgggagaaGreatDoorSjA
namespace Go.Proofs.YthmhfilkgggagaaGreatDoor
open Go.RowKit Go.Maps Go.Sort Go.Shelf

theorem lays_write : Lays.n166 Tryz.prog Tryz.lays156_ren := { Tryz.lays156 with }

theorem writeString_any (B b : Nat) (bs : List Value) (s : ByteArray) (w : World) (h : Lib.IsBuilderF 196 5 B b bs w) (hlen : bs.length + s.size ≤ 140737488355328) (hBw : B ≤ w.heap.size) :
    Calls Tryz.prog 104 #[.pointer (some ⟨b, 0, none⟩), .string s] w fun e w' => e = .returned (.tuple #[.int .i64 s.size, .nilIface]) ∧ (Lib.BuilderAtF 196 5 B b (.pointer (some ⟨b, 0, none⟩)) (bs ++ Lib.strCells s) w' ∧ Below B w w' ∧ Lib.OthersKept 5 (some b) w w') :=
  Any.Builder_WriteString_k lays_write Tryz.Builder_Extra_156 B b bs s w h hlen hBw

theorem look_one {w : World} {b n : Nat} {l : List (Sl.Subj × Sl.Lim)} (h : w.ownsMap Tryz.prog 151 limR b n (tabD l)) (s : Sl.Subj) (hs : OkS s) (hl : OkL l) :
    (Instr.lookup 109 (.map (some b)) (subjV s) false).run Tryz.prog w = .ok (limV ((look l s).getD noLim)) w := by
  obtain ⟨v, ps, hrun, hv⟩ := h.lookup law_subj Tryz.underlying109 (zero_lim w) (limR_mk noLim) (keyOf_subj s hs)
  rw [at_tabD l s hs hl] at hv
  rw [hrun, limR_inv hv]

theorem builder_below {T e : TypeId} {B b : Nat} {bs : List Value} {W W' : World} (h : Lib.IsBuilderF T e B b bs W) (hb : Below W.heap.size W W') : Lib.IsBuilderF T e B b bs W' := by
  have one : ∀ p, Lib.BuilderAtF T e B b p bs W → Lib.BuilderAtF T e B b p bs W' := by
    rintro p ⟨hB, v, hv, hown, hne⟩
    have hlt : b < W.heap.size := (Array.getElem?_eq_some_iff.1 hv).1
    exact ⟨hB, v, (hb.block b hlt).trans hv, hown.kept (row := none) ⟨hb.os, hb.tape, hb.output, hb.size, fun k hk _ => hb.block k hk⟩ (Classical.em _), hne⟩
  exact h.elim (fun x => .inl (one _ x)) (fun x => .inr (one _ x))

theorem SubjsAt.block {w w' : World} {g : Nat} {l : List Sl.Subj} (h : SubjsAt w g l) (hb : w'.heap[g]? = w.heap[g]?) : SubjsAt w' g l :=
  fun i hi c hc => (World.cell?_of_block (a := ⟨g, i * 4 + c, none⟩) hb).trans (h i hi c hc)

/-- The canonical text of what is said. -/
def textTo (l : List (Sl.Subj × Sl.Lim)) (ss : List Sl.Subj) : List UInt8 := ss.flatMap fun s => lineText s ((look l s).getD noLim)
def textOf (l : List (Sl.Subj × Sl.Lim)) : List UInt8 := textTo l (sortS (l.map (·.1)))

theorem textTo_snoc (l : List (Sl.Subj × Sl.Lim)) (ss : List Sl.Subj) (s : Sl.Subj) : textTo l (ss ++ [s]) = textTo l ss ++ lineText s ((look l s).getD noLim) := by simp [textTo]

/-- Limits as a table has them. -/
def OkT (l : List (Sl.Subj × Sl.Lim)) : Prop := OkL l ∧ (∀ x ∈ l, x.2.rate ≤ 1000000 ∧ x.2.burst ≤ 1000000) ∧ l.length ≤ 2001

theorem dec_len : ∀ n k : Nat, n < 10 ^ (k + 1) → (Lib.decDigits n).length ≤ k + 1
  | n, 0, h => by rw [Lib.decDigits, dif_pos (by simpa using h)]; simp
  | n, k + 1, h => by
    rw [Lib.decDigits]
    split
    · simp
    · have := dec_len (n / 10) k (by rw [Nat.pow_succ] at h; omega)
      simp; omega

theorem lineText_len (s : Sl.Subj) (m : Sl.Lim) (hs : OkS s) (hm : m.rate ≤ 1000000 ∧ m.burst ≤ 1000000) : (lineText s m).length ≤ 5000 := by
  have h1 := dec_len m.rate 6 (by omega)
  have h2 := dec_len m.burst 6 (by omega)
  obtain ⟨_, _, h3, h4⟩ := hs
  have hcl : (Sl.classW s.cls).length ≤ 6 := by unfold Sl.classW; split <;> decide
  unfold lineText frontW
  split
  · simp [Lib.join_cons, Lib.joinTail, Sl.defaultW, Sl.orgW]; omega
  · split
    · simp [Lib.join_cons, Lib.joinTail, Sl.defaultW, Sl.tenantW]; omega
    · split
      · simp [Lib.join_cons, Lib.joinTail, Sl.orgW]; omega
      · simp [Lib.join_cons, Lib.joinTail, Sl.tenantW]; omega

theorem textTo_len (l : List (Sl.Subj × Sl.Lim)) : ∀ ss : List Sl.Subj, (∀ s ∈ ss, (lineText s ((look l s).getD noLim)).length ≤ 5000) → (textTo l ss).length ≤ ss.length * 5000
  | [], _ => by simp [textTo]
  | s :: r, h => by
    have e : textTo l (s :: r) = lineText s ((look l s).getD noLim) ++ textTo l r := rfl
    have := textTo_len l r (fun t ht => h t (by simp [ht]))
    have h2 := h s (by simp)
    rw [e, List.length_append]; simp; omega

end Go.Proofs.YthmhfilkgggagaaGreatDoor

namespace Go.Proofs.YthmhfilkgggagaaGreatDoor
open Go.RowKit Go.Maps Go.Sort Go.Shelf

/-- The first cell of a table's block, and its last. -/
def TableAt (w : World) (tb mb : Nat) (d s m : Value) (tx : List UInt8) : Prop := w.heap[tb]? = some (.cells #[.map (some mb), d, s, m, .string ⟨tx.toArray⟩] 115 (0, 0))

/-- What the round needs of the world: the box of the subject, the table's map, its look-up. -/
structure Rnd (w : World) (l : List (Sl.Subj × Sl.Lim)) (tb mb n bx : Nat) (s : Sl.Subj) (W : World) : Prop where
  four : Four W bx (.int .i64 s.kind) (.int .i64 s.cls) (.string ⟨s.org.toArray⟩) (.string ⟨s.ten.toArray⟩)
  map : W.cell? ⟨tb, 0, none⟩ = some (.map (some mb))
  own : W.ownsMap Tryz.prog 151 limR mb n (tabD l)

theorem Rnd.look {w : World} {l : List (Sl.Subj × Sl.Lim)} {tb mb n bx : Nat} {s : Sl.Subj} {W : World} (h : Rnd w l tb mb n bx s W) (hs : OkS s) (hl : OkL l) :
    (Instr.lookup 109 (.map (some mb)) (.agg #[.int .i64 s.kind, .int .i64 s.cls, .string ⟨s.org.toArray⟩, .string ⟨s.ten.toArray⟩]) false).run Tryz.prog W = .ok (.agg #[.int .i64 ((look l s).getD noLim).rate, .int .i64 ((look l s).getD noLim).burst]) W :=
  look_one h.own s hs hl

theorem Rnd.below {w : World} {l : List (Sl.Subj × Sl.Lim)} {tb mb n bx : Nat} {s : Sl.Subj} {W W' : World} (h : Rnd w l tb mb n bx s W) (hb : Below W.heap.size W W') : Rnd w l tb mb n bx s W' :=
  ⟨h.four.keep hb, (hb.cell (p := ⟨tb, 0, none⟩) (cell_lt h.map)).trans h.map, h.own.kept (row := none) ⟨hb.os, hb.tape, hb.output, hb.size, fun k hk _ => hb.block k hk⟩ (by simp)⟩

theorem heap_setCell_at {w : World} {b : Nat} {cs : Array Value} {t : TypeId} {fz : Nat × Nat} (h : w.heap[b]? = some (.cells cs t fz)) (i : Nat) (v : Value) : (w.setCell ⟨b, i, none⟩ v).heap[b]? = some (.cells (cs.setIfInBounds i v) t fz) := by
  simp [World.setCell, Array.getElem?_modify, h]

theorem frozen_block {w w' : World} {a : Addr} (h : w'.heap[a.block]? = w.heap[a.block]?) : w'.frozen? a = w.frozen? a := by
  unfold World.frozen?; rw [h]

theorem Four.block {W W' : World} {n : Nat} {a b c d : Value} (h : Four W n a b c d) (hb : W'.heap[n]? = W.heap[n]?) (hz : W.heap.size ≤ W'.heap.size) : Four W' n a b c d := by
  obtain ⟨h0, h1, h2, h3, f0, f1, f2, f3, hn⟩ := h
  exact ⟨(World.cell?_of_block (a := ⟨n, 0, none⟩) hb).trans h0, (World.cell?_of_block (a := ⟨n, 1, none⟩) hb).trans h1, (World.cell?_of_block (a := ⟨n, 2, none⟩) hb).trans h2, (World.cell?_of_block (a := ⟨n, 3, none⟩) hb).trans h3,
    (frozen_block (a := ⟨n, 0, none⟩) hb).trans f0, (frozen_block (a := ⟨n, 1, none⟩) hb).trans f1, (frozen_block (a := ⟨n, 2, none⟩) hb).trans f2, (frozen_block (a := ⟨n, 3, none⟩) hb).trans f3, Nat.lt_of_lt_of_le hn hz⟩

theorem look_lim {l : List (Sl.Subj × Sl.Lim)} (h : OkT l) (s : Sl.Subj) : ((look l s).getD noLim).rate ≤ 1000000 ∧ ((look l s).getD noLim).burst ≤ 1000000 := by
  unfold look
  cases hf : l.find? (fun x => Sl.sameS x.1 s) with
  | none => simp [noLim]
  | some y => exact h.2.1 y (List.mem_of_find?_eq_some hf)

theorem sort_mem {l : List (Sl.Subj × Sl.Lim)} (h : OkT l) {s : Sl.Subj} (hs : s ∈ sortS (l.map (·.1))) : OkS s := by
  obtain ⟨x, hx, rfl⟩ := List.mem_map.1 ((sortS_perm _).mem_iff.1 hs)
  exact h.1.1 x hx

theorem Rnd.write {w : World} {l : List (Sl.Subj × Sl.Lim)} {tb mb n bx : Nat} {s : Sl.Subj} {W W' : World} (h : Rnd w l tb mb n bx s W) {cs : Array Value} {fz : Nat × Nat} (hblk : W.heap[bx]? = some (.cells cs 151 fz)) (hb : Below w.heap.size W W') (hok : Lib.OthersKept 5 (some w.heap.size) W W') (hbx : w.heap.size < bx) (htb : tb < w.heap.size) (hmb : mb < w.heap.size) : Rnd w l tb mb n bx s W' := by
  have h1 : W'.heap[bx]? = W.heap[bx]? := by rw [hblk]; exact hok bx _ hblk (by simp; omega) (fun c f e => by cases e)
  refine ⟨h.four.block h1 hb.size, (hb.cell (p := ⟨tb, 0, none⟩) htb).trans h.map, ?_⟩
  obtain ⟨es, clock, hm, F, hs, hD⟩ := h.own
  exact ⟨es, clock, (hb.block mb hmb).trans hm, F, hs, hD⟩

set_option maxRecDepth 100000 in
set_option maxHeartbeats 1000000 in
theorem writeText_any (l : List (Sl.Subj × Sl.Lim)) (tb mb n : Nat) (d st sm : Value) (tx : List UInt8) (w : World) (hT : TableAt w tb mb d st sm tx) (hown : w.ownsMap Tryz.prog 151 limR mb n (tabD l)) (hl : OkT l) (hE : Env w) :
    Calls Tryz.prog 69 #[.pointer (some ⟨tb, 0, none⟩)] w fun e w' => e = .returned (.tuple #[]) ∧ TableAt w' tb mb d st sm (textOf l) ∧ w.grownBy w' (some tb) := by
  have htb : tb < w.heap.size := (Array.getElem?_eq_some_iff.1 hT).1
  have hT2 : w.heap[tb]? = _ := hT
  have hc0 : w.cell? ⟨tb, 0, none⟩ = some (.map (some mb)) := by simp [World.cell?, hT2]
  have hn := hl.2.2
  have hmb := hown.lt
  have HT := hide hT; have HL := hide hl; have HE := hide hE; have HO := hide hown
  have hsub := hide (subjects_any l tb mb n (w.alloc (.cells #[.pointer none, .slice none 0 0] 196)) (by rw [World.cell?_alloc_past _ _ _ htb]; exact hc0) (hown.alloc _) hl.1 hn)
  clear hT hl hE hown hT2
  go_enter Tryz.func69, Tryz.ntmps69
  go_wp2_with fail
  refine (unhide hsub).mono ?_
  rintro e w1 ⟨g, cap, rfl, hat, hg, ⟨cur, hgb⟩, hb1⟩
  have hz1 : (w.alloc (.cells #[.pointer none, .slice none 0 0] 196)).heap.size = w.heap.size + 1 := by simp
  rw [hz1] at hb1 hg
  have hbw1 : Below w.heap.size w w1 := (Below.alloc1 _ _).trans (hb1.mono (by omega))
  have hbd : Lib.IsBuilderF 196 5 w.heap.size w.heap.size (Lib.byteCells []) w1 :=
    builder_below (Lib.IsBuilderF.of (Lib.fresh_isBuilder 196 5 w)) (by rw [hz1]; exact hb1)
  have HA := hide hat; have HB1 := hide hb1; have HBW1 := hide hbw1; have HBD := hide hbd
  have hsl : (sortS (l.map (·.1))).length = l.length := by rw [(sortS_perm _).length_eq]; simp
  generalize hss : sortS (l.map (·.1)) = ss at *
  have HSS := hide hss
  clear hat hb1 hbw1 hbd hz1 hss
  go_wp2_with fail
  go_loopw [8] (fun t wr => ∃ (k : Nat) (cur : Array Value), k ≤ l.length ∧ t = .int .i64 k ∧ Lib.IsBuilderF 196 5 w.heap.size w.heap.size (Lib.byteCells (textTo l (ss.take k))) wr ∧ wr.heap[g]? = some (.cells cur 151 (0, 0)) ∧ SubjsAt wr g ss ∧ Below w.heap.size w wr) (fun t _ => l.length - (intOf t).toNat)
  case atStart => exact ⟨0, cur, Nat.zero_le _, rfl, unhide HBD, hgb, unhide HA, unhide HBW1⟩
  case round =>
    obtain ⟨k, cur, hk, rfl, hbd, hgb, hat, hbw⟩ := hrel
    have hgl : g < wr.heap.size := (Array.getElem?_eq_some_iff.1 hgb).1
    have HBD := hide hbd; have HAT := hide hat; clear hbd hat
    by_cases hlt : k < l.length
    · have hks : k < ss.length := by omega
      have hmem : ss[k] ∈ ss := List.getElem_mem hks
      have c0 : wr.cell? ⟨g, k * 4, none⟩ = some (.int .i64 ss[k].kind) := (unhide HAT) k hks 0 (by omega)
      have c1 : wr.cell? ⟨g, k * 4 + 1, none⟩ = some (.int .i64 ss[k].cls) := (unhide HAT) k hks 1 (by omega)
      have c2 : wr.cell? ⟨g, k * 4 + 2, none⟩ = some (.string ⟨ss[k].org.toArray⟩) := (unhide HAT) k hks 2 (by omega)
      have c3 : wr.cell? ⟨g, k * 4 + 3, none⟩ = some (.string ⟨ss[k].ten.toArray⟩) := (unhide HAT) k hks 3 (by omega)
      have htake : ss.take (k + 1) = ss.take k ++ [ss[k]] := List.take_succ_eq_append_getElem hks
      generalize hse : ss[k] = s at *
      have hos : OkS s := sort_mem (unhide HL) (by rw [unhide HSS]; exact hmem)
      have hlm := look_lim (unhide HL) s
      have hll := lineText_len s _ hos hlm
      have HTK := hide htake; have HOS := hide hos; have HLM := hide hlm; have HLL := hide hll
      have hW0 : Rnd w l tb mb n wr.heap.size s (wr.alloc (.cells #[.int .i64 s.kind, .int .i64 s.cls, .string ⟨s.org.toArray⟩, .string ⟨s.ten.toArray⟩] 151)).drew := by
        refine ⟨Four.drew (Four.made wr _ _ _ _ _), ?_, ?_⟩
        · show (wr.alloc _).cell? _ = _
          rw [World.cell?_alloc_past _ _ _ (Nat.lt_of_lt_of_le htb hbw.size), hbw.cell (p := ⟨tb, 0, none⟩) htb]; exact hc0
        · exact (((unhide HO).kept (row := none) ⟨hbw.os, hbw.tape, hbw.output, hbw.size, fun j hj _ => hbw.block j hj⟩ (by simp)).alloc _).drew
      have hwz : w.heap.size ≤ wr.heap.size := hbw.size
      have hbl : w.heap.size < wr.heap.size := by rcases unhide HBD with h | h <;> exact h.lt
      have hbx : Below w.heap.size w (wr.alloc (.cells #[.int .i64 s.kind, .int .i64 s.cls, .string ⟨s.org.toArray⟩, .string ⟨s.ten.toArray⟩] 151)).drew := (hbw.alloc hwz _).drew
      have hcan := hide (canonicalLine_any s ((look l s).getD noLim) (wr.alloc (.cells #[.int .i64 s.kind, .int .i64 s.cls, .string ⟨s.org.toArray⟩, .string ⟨s.ten.toArray⟩] 151)).drew ((unhide HE).below hbx (unhide HE).size) hos.2.1 hlm.1 hlm.2 (by omega))
      have hbdx : Hid (Lib.IsBuilderF 196 5 w.heap.size w.heap.size (Lib.byteCells (textTo l (ss.take k))) (wr.alloc (.cells #[.int .i64 s.kind, .int .i64 s.cls, .string ⟨s.org.toArray⟩, .string ⟨s.ten.toArray⟩] 151)).drew) := hide (builder_below (unhide HBD) (Below.alloc1 wr (.cells #[.int .i64 s.kind, .int .i64 s.cls, .string ⟨s.org.toArray⟩, .string ⟨s.ten.toArray⟩] 151)).drew)
      have htl : (textTo l (ss.take k)).length ≤ 10005000 := by
        have h1 := textTo_len l (ss.take k) (fun t ht => lineText_len t _ (sort_mem (unhide HL) (by rw [unhide HSS]; exact List.mem_of_mem_take ht)) (look_lim (unhide HL) t))
        have h2 : (ss.take k).length ≤ 2001 := by simp; omega
        omega
      have H0 := hide hW0; have HBX := hide hbx
      have hlk0 := (hW0.look hos (unhide HL).1)
      clear hW0 hbx hos hlm hmem htake
      go_wp2_with fail
      go_region_held3 (fun w' => w'.cell? ⟨wr.heap.size, 0, none⟩ = some (.int .i64 s.kind) ∧ w'.cell? ⟨wr.heap.size, 1, none⟩ = some (.int .i64 s.cls) ∧ w'.cell? ⟨wr.heap.size, 2, none⟩ = some (.string ⟨s.org.toArray⟩) ∧ w'.cell? ⟨wr.heap.size, 3, none⟩ = some (.string ⟨s.ten.toArray⟩) ∧ w'.cell? ⟨tb, 0, none⟩ = some (.map (some mb)) ∧
          (Instr.lookup 109 (.map (some mb)) (.agg #[.int .i64 s.kind, .int .i64 s.cls, .string ⟨s.org.toArray⟩, .string ⟨s.ten.toArray⟩]) false).run Tryz.prog w' = .ok (.agg #[.int .i64 ((look l s).getD noLim).rate, .int .i64 ((look l s).getD noLim).burst]) w')
        (first
          | exact ⟨(unhide H0).four.1, (unhide H0).four.2.1, (unhide H0).four.2.2.1, (unhide H0).four.2.2.2.1, (unhide H0).map, (unhide H0).look (unhide HOS) (unhide HL).1⟩
          | exact ⟨(unhide H1).four.1, (unhide H1).four.2.1, (unhide H1).four.2.2.1, (unhide H1).four.2.2.2.1, (unhide H1).map, (unhide H1).look (unhide HOS) (unhide HL).1⟩
          | exact ⟨(unhide H2).four.1, (unhide H2).four.2.1, (unhide H2).four.2.2.1, (unhide H2).four.2.2.2.1, (unhide H2).map, (unhide H2).look (unhide HOS) (unhide HL).1⟩)
        (first
          | (go_at_call 105; refine (unhide hcan).mono ?_; rintro e w2 ⟨rfl, hb2⟩; have H1 := hide ((unhide H0).below hb2); have hB2 := hide ((unhide HBX).trans (hb2.mono (by simp; omega))); have bd2 := hide (builder_below (unhide hbdx) (W' := w2) hb2); have blk2 := hide ((hb2.block wr.heap.size (by simp)).trans (MapKept.heap_alloc wr _).1); have gk2 := hide ((hb2.block g (by simp; omega)).trans ((MapKept.heap_alloc wr _).2 g hgl)))
          | (go_at_call 104; refine (writeString_any w.heap.size w.heap.size _ _ _ (unhide bd2) ?_ ?_).mono ?_; (rw [Lib.byteCells_length]; show _ + (lineText s ((look l s).getD noLim)).toArray.size ≤ _; simp; omega); (exact (unhide hB2).size); rintro e w3 ⟨rfl, bd3, hb3, ok3⟩; have H2 := hide ((unhide H1).write (unhide blk2) hb3 ok3 hbl htb hmb); have BD3 := hide bd3; have HB3 := hide hb3; have OK3 := hide ok3; clear bd3 hb3 ok3))
      have hfin : Lib.IsBuilderF 196 5 w.heap.size w.heap.size (Lib.byteCells (textTo l (ss.take (k + 1)))) w3 := by
        rw [unhide HTK, textTo_snoc, Lib.byteCells_append]
        exact .inr (unhide BD3)
      have hgk : w3.heap[g]? = wr.heap[g]? := by
        have h2 := unhide gk2
        rw [hgb] at h2
        rw [hgb]
        exact (unhide OK3) g _ h2 (by simp; omega) (fun c f e => by cases e)
      have HFI := hide hfin; have HGK := hide hgk; clear hfin hgk
      go_wp2
      go_roundw
      case rel => exact ⟨k + 1, cur, by omega, by go_num, unhide HFI, (unhide HGK).trans hgb, (unhide HAT).block (unhide HGK), (unhide hB2).trans (unhide HB3)⟩
      case measure => simp [intOf]; omega
    · have hke : k = l.length := by omega
      have htx : textTo l (ss.take k) = textOf l := by rw [hke, ← hsl, List.take_length]; unfold textOf; rw [unhide HSS]
      rw [htx] at HBD
      have hstr := hide (Tryz.Builder_String_any_k w.heap.size w.heap.size (textOf l) wr (unhide HBD) hbw.size)
      clear hke htx
      go_wp2_with fail
      refine (unhide hstr).mono ?_
      rintro e w2 ⟨rfl, bd2, hb2, ok2⟩
      have htab : w2.heap[tb]? = some (.cells #[.map (some mb), d, st, sm, .string ⟨tx.toArray⟩] 115 (0, 0)) := (hb2.block tb htb).trans ((hbw.block tb htb).trans (unhide HT))
      have c4 : w2.cell? ⟨tb, 4, none⟩ = some (.string ⟨tx.toArray⟩) := by simp [World.cell?, htab]
      have f4 : w2.frozen? ⟨tb, 4, none⟩ = false := by simp [World.frozen?, htab]
      have HTB := hide htab; clear htab
      go_wp2
      go_end0
      refine ⟨rfl, ?_, ?_⟩
      · have h1 := heap_setCell_at (unhide HTB) 4 (.string ⟨(textOf l).toArray⟩)
        exact h1
      · have h2 := hbw.trans hb2
        refine ⟨?_, ?_, ?_, ?_, ?_⟩
        · exact h2.os
        · exact h2.tape
        · exact h2.output
        · simp; exact h2.size
        · intro j hj hne
          rw [Below.heap_setCell _ _ _ _ (fun e => hne (by rw [e]))]
          exact h2.block j hj

end Go.Proofs.YthmhfilkgggagaaGreatDoor

/-
  A plan: limits out of raw numbers.
-/
import Derived.Test.YthmhfilkgggagaaGreatDoorKeA
import Derived.Deep.MidRow
namespace Go.Proofs.YthmhfilkgggagaaGreatDoor
open Go.RowKit Go.Maps Go.Sort

/-- The cells of a plan: all organisations (0, 1), all tenants (2, 3), organisations (4 + 2 o + c), tenants (8 + 4 o + 2 t + c). -/
abbrev pc (p : Nat → Sl.Lim) : Array Value := #[.int .i64 (p 0).rate, .int .i64 (p 0).burst, .int .i64 (p 1).rate, .int .i64 (p 1).burst, .int .i64 (p 2).rate, .int .i64 (p 2).burst, .int .i64 (p 3).rate, .int .i64 (p 3).burst, .int .i64 (p 4).rate, .int .i64 (p 4).burst, .int .i64 (p 5).rate, .int .i64 (p 5).burst, .int .i64 (p 6).rate, .int .i64 (p 6).burst, .int .i64 (p 7).rate, .int .i64 (p 7).burst, .int .i64 (p 8).rate, .int .i64 (p 8).burst, .int .i64 (p 9).rate, .int .i64 (p 9).burst, .int .i64 (p 10).rate, .int .i64 (p 10).burst, .int .i64 (p 11).rate, .int .i64 (p 11).burst, .int .i64 (p 12).rate, .int .i64 (p 12).burst, .int .i64 (p 13).rate, .int .i64 (p 13).burst, .int .i64 (p 14).rate, .int .i64 (p 14).burst, .int .i64 (p 15).rate, .int .i64 (p 15).burst]
def noPlan : Nat → Sl.Lim := fun _ => noLim
def upd (p : Nat → Sl.Lim) (i : Nat) (l : Sl.Lim) : Nat → Sl.Lim := fun j => if j = i then l else p j

def PlanAt (w : World) (pb : Nat) (p : Nat → Sl.Lim) : Prop := w.heap[pb]? = some (.cells (pc p) 32 (0, 0))

theorem PlanAt.cell {w : World} {pb : Nat} {p : Nat → Sl.Lim} (h : PlanAt w pb p) (j : Nat) (v : Value) (hv : (pc p)[j]? = some v) : w.cell? ⟨pb, j, none⟩ = some v := by
  have h' : w.heap[pb]? = _ := h
  simp only [World.cell?, h']; exact hv

theorem PlanAt.frozen {w : World} {pb : Nat} {p : Nat → Sl.Lim} (h : PlanAt w pb p) (j : Nat) : w.frozen? ⟨pb, j, none⟩ = false := by
  have h' : w.heap[pb]? = _ := h
  simp [World.frozen?, h']

theorem PlanAt.two {w : World} {pb : Nat} {p : Nat → Sl.Lim} (h : PlanAt w pb p) (i : Nat) (hi : i < 16) : w.cell? ⟨pb, 2 * i, none⟩ = some (.int .i64 (p i).rate) ∧ w.cell? ⟨pb, 2 * i + 1, none⟩ = some (.int .i64 (p i).burst) ∧ w.frozen? ⟨pb, 2 * i, none⟩ = false ∧ w.frozen? ⟨pb, 2 * i + 1, none⟩ = false := by
  refine ⟨h.cell _ _ ?_, h.cell _ _ ?_, h.frozen _, h.frozen _⟩ <;>
  · match i, hi with
    | 0, _ => rfl
    | 1, _ => rfl
    | 2, _ => rfl
    | 3, _ => rfl
    | 4, _ => rfl
    | 5, _ => rfl
    | 6, _ => rfl
    | 7, _ => rfl
    | 8, _ => rfl
    | 9, _ => rfl
    | 10, _ => rfl
    | 11, _ => rfl
    | 12, _ => rfl
    | 13, _ => rfl
    | 14, _ => rfl
    | 15, _ => rfl
    | n + 16, h => exact absurd h (by omega)

theorem PlanAt.set {w : World} {pb : Nat} {p : Nat → Sl.Lim} (h : PlanAt w pb p) (i : Nat) (l : Sl.Lim) (e : ((pc p).setIfInBounds (2 * i) (.int .i64 l.rate)).setIfInBounds (2 * i + 1) (.int .i64 l.burst) = pc (upd p i l)) :
    PlanAt ((w.setCell ⟨pb, 2 * i, none⟩ (.int .i64 l.rate)).setCell ⟨pb, 2 * i + 1, none⟩ (.int .i64 l.burst)) pb (upd p i l) := by
  have h1 := heap_setCell_at (heap_setCell_at h (2 * i) (.int .i64 l.rate)) (2 * i + 1) (.int .i64 l.burst)
  rw [e] at h1
  exact h1

theorem upd_eq (p : Nat → Sl.Lim) (l : Sl.Lim) (i : Nat) (hi : i < 16) : ((pc p).setIfInBounds (2 * i) (.int .i64 l.rate)).setIfInBounds (2 * i + 1) (.int .i64 l.burst) = pc (upd p i l) := by
  match i, hi with
  | 0, _ => rfl
  | 1, _ => rfl
  | 2, _ => rfl
  | 3, _ => rfl
  | 4, _ => rfl
  | 5, _ => rfl
  | 6, _ => rfl
  | 7, _ => rfl
  | 8, _ => rfl
  | 9, _ => rfl
  | 10, _ => rfl
  | 11, _ => rfl
  | 12, _ => rfl
  | 13, _ => rfl
  | 14, _ => rfl
  | 15, _ => rfl
  | n + 16, h => exact absurd h (by omega)

/-- All limits are such as the dice give, or none; those of all organisations and of all tenants are there, up to class k. -/
def OkP (k : Nat) (p : Nat → Sl.Lim) : Prop := (∀ i, i < k → OkLim (p i) ∧ OkLim (p (2 + i))) ∧ ∀ i, OkLim (p i) ∨ p i = noLim

theorem OkP.maybe {k : Nat} {p : Nat → Sl.Lim} (h : OkP k p) {i : Nat} {l : Sl.Lim} (hi : 4 ≤ i) (hk : k ≤ 2) (hl : OkLim l ∨ l = noLim) : OkP k (upd p i l) := by
  refine ⟨fun j hj => ?_, fun j => ?_⟩
  · have e1 : upd p i l j = p j := by unfold upd; rw [if_neg (by omega)]
    have e2 : upd p i l (2 + j) = p (2 + j) := by unfold upd; rw [if_neg (by omega)]
    rw [e1, e2]; exact h.1 j hj
  · unfold upd; split
    · exact hl
    · exact h.2 j

theorem OkP.one {k : Nat} {p : Nat → Sl.Lim} (h : OkP k p) {l : Sl.Lim} (hk : k < 2) (hl : OkLim l) : OkP k (upd p k l) := by
  refine ⟨fun j hj => ?_, fun j => ?_⟩
  · have e1 : upd p k l j = p j := by unfold upd; rw [if_neg (by omega)]
    have e2 : upd p k l (2 + j) = p (2 + j) := by unfold upd; rw [if_neg (by omega)]
    rw [e1, e2]; exact h.1 j hj
  · unfold upd; split
    · exact .inl hl
    · exact h.2 j

theorem OkP.both {k : Nat} {p : Nat → Sl.Lim} (h : OkP k p) {l m : Sl.Lim} (hk : k < 2) (hl : OkLim l) (hm : OkLim m) : OkP (k + 1) (upd (upd p k l) (2 + k) m) := by
  refine ⟨fun j hj => ?_, fun j => ?_⟩
  · by_cases e : j = k
    · subst e
      refine ⟨?_, ?_⟩
      · unfold upd; rw [if_neg (by omega), if_pos rfl]; exact hl
      · unfold upd; rw [if_pos rfl]; exact hm
    · have := h.1 j (by omega)
      refine ⟨?_, ?_⟩
      · unfold upd; rw [if_neg (by omega), if_neg (by omega)]; exact this.1
      · unfold upd; rw [if_neg (by omega), if_neg (by omega)]; exact this.2
  · unfold upd; split
    · exact .inl hm
    · split
      · exact .inl hl
      · exact h.2 j

/-- What holds in the loops of planned. -/
structure Pl (w0 : World) (db B pb k : Nat) (W : World) (p : Nat → Sl.Lim) : Prop where
  dice : Dice W db B
  grown : w0.grownBy W (some db)
  plan : PlanAt W pb p
  ok : OkP k p

/-- The world behind a call that took from the dice, and behind the store of what it gave. -/
theorem Pl.call {w0 : World} {db B pb k : Nat} {W W' : World} {p : Nat → Sl.Lim} (h : Pl w0 db B pb k W p) (hd : Dice W' db B) (hg : W.grownBy W' (some db)) (hne : pb ≠ db) : Pl w0 db B pb k W' p :=
  ⟨hd, h.grown.trans hg, (hg.block pb (Array.getElem?_eq_some_iff.1 h.plan).1 (by simp; exact hne)).trans h.plan, h.ok⟩

theorem Pl.store {w0 : World} {db B pb k k' : Nat} {W : World} {p : Nat → Sl.Lim} (h : Pl w0 db B pb k W p) {i off : Nat} {l : Sl.Lim} (ho : off = 2 * i) (hi : i < 16) (hok : OkP k' (upd p i l)) (hne : pb ≠ db) (hB : B ≤ pb) (hp : w0.heap.size ≤ pb) :
    Pl w0 db B pb k' ((W.setCell ⟨pb, off, none⟩ (.int .i64 l.rate)).setCell ⟨pb, off + 1, none⟩ (.int .i64 l.burst)) (upd p i l) := by
  subst ho
  exact ⟨(h.dice.set hB (fun e => hne e.symm) _).set hB (fun e => hne e.symm) _, grown_set_new (grown_set_new h.grown hp _) hp _, h.plan.set i l (upd_eq p l i hi), hok⟩

theorem Pl.two {w0 : World} {db B pb k : Nat} {W : World} {p : Nat → Sl.Lim} (h : Pl w0 db B pb k W p) {i off : Nat} (ho : off = 2 * i) (hi : i < 16) : w0.heap.size ≤ w0.heap.size ∧ W.cell? ⟨pb, off, none⟩ = some (.int .i64 (p i).rate) ∧ W.cell? ⟨pb, off + 1, none⟩ = some (.int .i64 (p i).burst) ∧ W.frozen? ⟨pb, off, none⟩ = false ∧ W.frozen? ⟨pb, off + 1, none⟩ = false := by
  subst ho
  exact ⟨Nat.le_refl _, h.plan.two i hi⟩

/-- A call of maybe, and the store behind it, as one step. -/
theorem Pl.step {w0 : World} {db B pb k : Nat} {W : World} {p : Nat → Sl.Lim} (h : Pl w0 db B pb k W p) {i off : Nat} (ho : off = 2 * i) (h4 : 4 ≤ i) (hi : i < 16) (hk : k ≤ 2) (hne : pb ≠ db) (hB : B ≤ pb) (hp : w0.heap.size ≤ pb)
    {w6 : World} {l6 : Sl.Lim} (hd : Dice w6 db B) (hg : W.grownBy w6 (some db)) (hl : OkLim l6 ∨ l6 = noLim) :
    w6.cell? ⟨pb, off, none⟩ = some (.int .i64 (p i).rate) ∧ w6.cell? ⟨pb, off + 1, none⟩ = some (.int .i64 (p i).burst) ∧ w6.frozen? ⟨pb, off, none⟩ = false ∧ w6.frozen? ⟨pb, off + 1, none⟩ = false ∧
    Hid (Pl w0 db B pb k ((w6.setCell ⟨pb, off, none⟩ (.int .i64 l6.rate)).setCell ⟨pb, off + 1, none⟩ (.int .i64 l6.burst)) (upd p i l6)) := by
  have h6 := h.call hd hg hne
  obtain ⟨-, a, b, c, d⟩ := h6.two ho hi
  exact ⟨a, b, c, d, hide (h6.store ho hi (h.ok.maybe h4 hk hl) hne hB hp)⟩

theorem Pl.drew {w0 : World} {db B pb k : Nat} {W : World} {p : Nat → Sl.Lim} (h : Pl w0 db B pb k W p) : Pl w0 db B pb k W.drew p := ⟨h.dice, h.grown.trans (grown_drew _), h.plan, h.ok⟩

theorem plan_size : (Tryz.prog.info? 32).map (·.size) = some 32 := by kernel_rfl

theorem range_row {w : World} {b : Nat} {arr : Array Value} {t : TypeId} (h : w.heap[b]? = some (.cells arr t (0, 0))) : w.rangeAt b 0 arr.toList := by
  intro j v hv
  rw [Nat.zero_add]
  simp only [World.cell?, h]
  simpa using hv

theorem load_plan {w : World} {pb : Nat} {arr : Array Value} (h : w.heap[pb]? = some (.cells arr 32 (0, 0))) (hz : arr.size = 32) : (Instr.loadAt 32 (.pointer (some ⟨pb, 0, none⟩))).run Tryz.prog w = .ok (.agg arr) w := by
  have := run_loadAt_mid (P := Tryz.prog) w pb 0 32 arr.toList _ (range_row h) Tryz.underlying32 rfl (by rw [show arr.toList.length = 32 by simpa using hz]; exact plan_size)
  simpa using this

theorem loadVar_plan {w : World} {pb : Nat} {arr : Array Value} (h : w.heap[pb]? = some (.cells arr 32 (0, 0))) (hz : arr.size = 32) : (loadVar 32 ⟨pb, 0, none⟩).run Tryz.prog w = .ok (.agg arr) w := by
  have := run_loadVar_mid (P := Tryz.prog) w pb 0 32 arr.toList _ (range_row h) Tryz.underlying32 rfl (by rw [show arr.toList.length = 32 by simpa using hz]; exact plan_size)
  simpa using this

theorem store_plan {w : World} {rb : Nat} {old arr : Array Value} (h : w.heap[rb]? = some (.cells old 32 (0, 0))) (ho : old.size = arr.size) (h1 : ∀ v ∈ arr.toList, v.oneCell' = true) :
    (storeCells ⟨rb, 0, none⟩ arr.toList).run Tryz.prog w = .ok () (w.setRow rb arr) := by
  have this := run_storeCells_from (P := Tryz.prog) rb 32 arr.toList 0 old w h (by simp; omega) h1
  simp only [List.take_zero, List.nil_append, Array.toArray_toList] at this
  exact this

theorem pc_one (p : Nat → Sl.Lim) : ∀ v ∈ (pc p).toList, v.oneCell' = true := by
  intro v hv
  simp at hv
  rcases hv with h | h | h | h | h | h | h | h | h | h | h | h | h | h | h | h | h | h | h | h | h | h | h | h | h | h | h | h | h | h | h | h <;> rw [h] <;> rfl

theorem setRow_other (w : World) (g j : Nat) (cs : Array Value) (h : j ≠ g) : (w.setRow g cs).heap[j]? = w.heap[j]? := by
  unfold World.setRow
  rw [Array.getElem?_modify, if_neg (fun e => h e.symm)]

theorem grown_row {w w' : World} {row : Option Nat} (hg : w.grownBy w' row) {g : Nat} (hb : w.heap.size ≤ g) (cs : Array Value) : w.grownBy (w'.setRow g cs) row :=
  ⟨hg.os, hg.tape, hg.output, Nat.le_trans hg.size (by simp [World.setRow]), fun j hj hne => (setRow_other _ _ _ _ (by omega)).trans (hg.block j hj hne)⟩

theorem Dice.row {w : World} {db B g : Nat} (h : Dice w db B) (hb : B ≤ g) (hne : db ≠ g) (cs : Array Value) : Dice (w.setRow g cs) db B :=
  h.kept ⟨rfl, rfl, rfl, by simp [World.setRow], fun j hj => setRow_other _ _ _ _ (by omega)⟩ (setRow_other _ _ _ _ hne)

abbrev noPlanO : Obj := .cells (pc noPlan) 32

theorem alloc_plan (w : World) : PlanAt ((w.alloc noPlanO).alloc noPlanO) (w.heap.size + 1) noPlan := by
  have := (MapKept.heap_alloc (w.alloc noPlanO) noPlanO).1
  simp at this
  simp [PlanAt, this]

set_option maxRecDepth 100000 in
set_option maxHeartbeats 4000000 in
theorem planned_any (db B : Nat) (w : World) (hd : Dice w db B) :
    Calls Tryz.prog 14 #[.pointer (some ⟨db, 0, none⟩)] w fun e w' => Dice w' db B ∧ w.grownBy w' (some db) ∧ ∃ p, OkP 2 p ∧ e = .returned (.agg (pc p)) := by
  have hdl := hd.lt
  have hdw := hd.low
  have h0 : Pl (w.alloc noPlanO) db B (w.heap.size + 1) 0 ((w.alloc noPlanO).alloc noPlanO) noPlan :=
    ⟨(hd.alloc _).alloc _, grown_alloc _ _ _, alloc_plan w, ⟨fun i hi => absurd hi (by omega), fun i => .inr rfl⟩⟩
  have H0 := hide h0
  clear h0
  have hsz : (w.alloc noPlanO).heap.size = w.heap.size + 1 := by simp
  have hszB : B ≤ w.heap.size := by omega
  go_enter Tryz.func14, Tryz.ntmps14
  go_wp2_with fail
  go_loopw [4] (fun t wr => ∃ c p, c ≤ 2 ∧ t = .int .i64 (c : Nat) ∧ Pl (w.alloc noPlanO) db B (w.heap.size + 1) c wr p) (fun t _ => 2 - (intOf t).toNat)
  case atStart => exact ⟨0, noPlan, by omega, rfl, unhide H0⟩
  case round =>
    obtain ⟨c, p, hc, rfl, hp⟩ := hrel
    by_cases hlt : c < 2
    · have hlim := hide (limitD_any db B wr hp.dice)
      have HP := hide hp; clear hp
      have hdk : decide ((c : Int) < 2) = true := by simp; omega
      go_wp2_with fail
      refine (unhide hlim).mono ?_
      rintro e w1 ⟨hd1, hg1, l, hl, rfl⟩
      have hp1 := (unhide HP).call hd1 hg1 (by omega)
      have hp2 := hp1.store (k' := c) (i := c) (off := c * 2) (l := l) (by omega) (by omega) (hp1.ok.one hlt hl) (by omega) (by omega) (by omega)
      have hok := hp1.ok
      obtain ⟨-, x0, x1, y0, y1⟩ := hp1.two (i := c) (off := c * 2) (by omega) (by omega)
      have hlim2 := hide (limitD_any db B _ hp2.dice)
      have HP2 := hide hp2; have HL := hide hl; have HOK := hide hok
      clear hp1 hp2 hd1 hg1 hl HP hok
      unfold limV
      go_wp2_with fail
      refine (unhide hlim2).mono ?_
      rintro e w3 ⟨hd3, hg3, l2, hl2, rfl⟩
      have hp3 := (unhide HP2).call hd3 hg3 (by omega)
      have hp4 := hp3.store (k' := c + 1) (i := 2 + c) (off := 4 + c * 2) (l := l2) (by omega) (by omega) ((unhide HOK).both hlt (unhide HL) hl2) (by omega) (by omega) (by omega)
      obtain ⟨-, z0, z1, v0, v1⟩ := hp3.two (i := 2 + c) (off := 4 + c * 2) (by omega) (by omega)
      have HP4 := hide hp4
      generalize upd (upd p c l) (2 + c) l2 = p2 at *
      clear hp3 hp4 hd3 hg3 hl2 HP2 hlim2 hlim x0 x1 y0 y1 HOK HL
      unfold limV
      go_wp2_with fail
      generalize ((w3.setCell ⟨w.heap.size + 1, 4 + c * 2, none⟩ (.int .i64 l2.rate)).setCell ⟨w.heap.size + 1, 4 + c * 2 + 1, none⟩ (.int .i64 l2.burst)) = w4 at *
      clear z0 z1 v0 v1
      obtain ⟨wo, rfl⟩ : ∃ wo : World, wo = wr := ⟨_, rfl⟩
      go_loopw [5] (fun t wr => ∃ o p, o ≤ 2 ∧ t = .int .i64 (o : Nat) ∧ Pl (w.alloc noPlanO) db B (w.heap.size + 1) (c + 1) wr p) (fun t _ => 2 - (intOf t).toNat)
      case atStart => exact ⟨0, p2, by omega, rfl, unhide HP4⟩
      case round =>
        clear HP4
        obtain ⟨o, p5, ho, rfl, hp5⟩ := hrel
        by_cases hlo : o < 2
        · have hmayd := hide (maybe_any db B wr.drew hp5.dice)
          have hstep := hide (fun w6 l6 => hp5.drew.step (i := 4 + 2 * o + c) (off := 8 + o * 4 + c * 2) (w6 := w6) (l6 := l6) (by omega) (by omega) (by omega) (by omega) (by omega) (by omega) (by omega))
          have HP5 := hide hp5; clear hp5
          have hdo : decide ((o : Int) < 2) = true := by simp; omega
          have hio : (o : Int) < 2 := by omega
          have hic : (c : Int) < 2 := by omega
          go_wp2_with fail
          go_region_held3 (fun w' => True) (go_keep)
            (first | (go_at_call 41; refine (unhide hmayd).mono ?_; rintro e w6 ⟨hd6, hg6, l6, hl6, rfl⟩; obtain ⟨z0, z1, v0, v1, HP7⟩ := unhide hstep w6 l6 hd6 hg6 hl6; clear hd6 hg6 hl6; unfold limV))
          generalize ((w6.setCell ⟨w.heap.size + 1, 8 + o * 4 + c * 2, none⟩ (.int .i64 l6.rate)).setCell ⟨w.heap.size + 1, 8 + o * 4 + c * 2 + 1, none⟩ (.int .i64 l6.burst)) = w7 at *
          generalize upd p5 (4 + 2 * o + c) l6 = p7 at *
          clear z0 z1 v0 v1 hmayd hstep HP5
          go_wp2_with fail
          obtain ⟨wi, rfl⟩ : ∃ wi : World, wi = wr := ⟨_, rfl⟩
          go_loopw [6] (fun t wr => ∃ s p, s ≤ 2 ∧ t = .int .i64 (s : Nat) ∧ Pl (w.alloc noPlanO) db B (w.heap.size + 1) (c + 1) wr p) (fun t _ => 2 - (intOf t).toNat)
          case atStart => exact ⟨0, p7, by omega, rfl, unhide HP7⟩
          case round =>
            clear HP7
            obtain ⟨s, p8, hs, rfl, hp8⟩ := hrel
            by_cases hls : s < 2
            · have hmayd := hide (maybe_any db B wr.drew hp8.dice)
              have hstep := hide (fun w9 l9 => hp8.drew.step (i := 8 + 4 * o + 2 * s + c) (off := 16 + o * 8 + s * 4 + c * 2) (w6 := w9) (l6 := l9) (by omega) (by omega) (by omega) (by omega) (by omega) (by omega) (by omega))
              have HP8 := hide hp8; clear hp8
              have hds : decide ((s : Int) < 2) = true := by simp; omega
              have his : (s : Int) < 2 := by omega
              go_wp2_with fail
              go_region_held3 (fun w' => True) (go_keep)
                (first | (go_at_call 41; refine (unhide hmayd).mono ?_; rintro e w9 ⟨hd9, hg9, l9, hl9, rfl⟩; obtain ⟨z0, z1, v0, v1, HP9⟩ := unhide hstep w9 l9 hd9 hg9 hl9; clear hd9 hg9 hl9; unfold limV))
              generalize ((w9.setCell ⟨w.heap.size + 1, 16 + o * 8 + s * 4 + c * 2, none⟩ (.int .i64 l9.rate)).setCell ⟨w.heap.size + 1, 16 + o * 8 + s * 4 + c * 2 + 1, none⟩ (.int .i64 l9.burst)) = w10 at *
              clear z0 z1 v0 v1 hmayd hstep HP8
              go_wp2
              go_roundw
              case rel => exact ⟨s + 1, _, by omega, by go_num, unhide HP9⟩
              case measure => simp [intOf]; omega
            · have hse : s = 2 := by omega
              have HP8 := hide hp8; clear hp8
              go_wp2
              go_roundw
              case rel => exact ⟨o + 1, _, by omega, by go_num, unhide HP8⟩
              case measure => simp [intOf]; omega
        · have hoe : o = 2 := by omega
          have HP5 := hide hp5; clear hp5
          go_wp2
          go_roundw
          case rel => exact ⟨c + 1, _, by omega, by go_num, unhide HP5⟩
          case measure => simp [intOf]; omega
    · have hce : c = 2 := by omega
      subst hce
      have hr0 : wr.heap[w.heap.size]? = some (.cells (pc noPlan) 32 (0, 0)) :=
        (hp.grown.block w.heap.size (by simp) (by simp; omega)).trans (MapKept.heap_alloc w noPlanO).1
      have hrg : wr.rangeAt (w.heap.size + 1) 0 (pc p).toList := range_row hp.plan
      have hst := store_plan (arr := pc p) hr0 rfl (pc_one p)
      have hnew := setRow_heap wr w.heap.size _ (pc p) _ _ hr0
      have hres := loadVar_plan hnew rfl
      have hd9 := hp.dice.row (g := w.heap.size) (by omega) (by omega) (pc p)
      have hg9 : w.grownBy (wr.setRow w.heap.size (pc p)) (some db) := grown_row ((grown_alloc w noPlanO _).trans hp.grown) (Nat.le_refl _) (pc p)
      have hok := hp.ok
      generalize wr.setRow w.heap.size (pc p) = wz at *
      have HOK : Hid (∃ q, OkP 2 q ∧ pc p = pc q) := hide ⟨p, hok, rfl⟩
      have D9 := hide hd9; have G9 := hide hg9
      have hlen : (pc p).toList.length = 32 := rfl
      clear hp hr0 hnew hd9 hg9 hok
      obtain ⟨cs, hcs⟩ : ∃ cs : List Value, pc p = cs.toArray := ⟨(pc p).toList, rfl⟩
      rw [hcs] at hrg hst hres HOK hlen
      simp only [] at hrg hlen hst
      have HRG := hide hrg; have HRS := hide hres
      clear hcs hrg hres
      go_wp2_with (first
        | (refine wpList_load_mid rfl 32 (.tmp 3) rfl (w.heap.size + 1) 0 rfl cs _ (unhide HRG) Tryz.underlying32 rfl ?_ ?_; (rw [hlen]; exact plan_size)))
      refine bodyPost_ret (v := .agg cs.toArray) (by simp [results, Tryz.results14, asAddr, unhide HRS]) rfl ⟨unhide D9, unhide G9, ?_⟩
      obtain ⟨q, hq, e⟩ := unhide HOK
      exact ⟨q, hq, by rw [e]⟩

end Go.Proofs.YthmhfilkgggagaaGreatDoor

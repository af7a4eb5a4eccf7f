/-
  The sluice: Now, Sweep, Level, Tick.
  The sluice: Admit, where nothing is decided.
  Which blocks a call may turn: those of a set; new ones may come.
  A sluice's state as one record; what a call on it leaves: the state behind it, and all blocks that are none of its own.
  The sluice: Admit.
  The sluice's calls, over its state as one record.
-/
import Derived.Test.YthmhfilkgggagaaGreatDoorLevA
import Derived.Test.YthmhfilkgggagaaGreatDoorSluice
import Derived.Test.YthmhfilkgggagaaGreatDoorLevB
namespace Go.Proofs.YthmhfilkgggagaaGreatDoor
open Go.RowKit Go.Maps Go.Sort

/-- A sluice whose lock is held. -/
structure SlIn (w : World) (sb tb mb n : Nat) (l : List (Sl.Subj × Sl.Lim)) (lb tm : Nat) (lv : Lv) : Prop where
  at_ : SlAt w sb (.pointer (some ⟨tb, 0, none⟩)) (.int .i32 1) (.int .i64 tm) (.map (some lb))
  lev : OwnsV w lb lv
  ok : OkV lv
  few : lv.length ≤ 64
  time : tm ≤ 1000000000000
  low : 7 ≤ sb
  ne : sb ≠ lb
  table : IsTable w tb mb n l
  okp : OkPos l
  apart : sb ≠ tb ∧ sb ≠ mb ∧ tb ≠ lb ∧ mb ≠ lb

section
variable {w w' : World} {sb tb mb n : Nat} {l : List (Sl.Subj × Sl.Lim)} {lb tm : Nat} {lv : Lv}

theorem IsSl.lock (h : IsSl w sb tb mb n l lb tm lv) : SlIn (w.setCell ⟨sb, 1, none⟩ (.int .i32 1)) sb tb mb n l lb tm lv := by
  have hg := grown_set w sb 1 (.int .i32 1)
  exact ⟨h.core.at_.set1 _, h.core.lev.kept hg (by simpa using fun e => h.core.ne e.symm), h.core.ok, h.core.few, h.core.time, h.core.low, h.core.ne, h.table.blocks hg (by simpa using fun e => h.apart.1 e.symm) (by simpa using fun e => h.apart.2.1 e.symm), h.okp, h.apart⟩

theorem SlIn.unlock (h : SlIn w sb tb mb n l lb tm lv) : IsSl (w.setCell ⟨sb, 1, none⟩ (.int .i32 0)) sb tb mb n l lb tm lv := by
  have hg := grown_set w sb 1 (.int .i32 0)
  exact ⟨⟨h.at_.set1 _, h.lev.kept hg (by simpa using fun e => h.ne e.symm), h.ok, h.few, h.time, h.low, h.ne⟩, h.table.blocks hg (by simpa using fun e => h.apart.1 e.symm) (by simpa using fun e => h.apart.2.1 e.symm), h.okp, h.apart⟩

theorem SlIn.below (h : SlIn w sb tb mb n l lb tm lv) (hb : Below w.heap.size w w') : SlIn w' sb tb mb n l lb tm lv :=
  ⟨(hb.block sb h.at_.lt).trans h.at_, h.lev.kept (grown_below (row := none) hb) (by simp), h.ok, h.few, h.time, h.low, h.ne, h.table.kept hb, h.okp, h.apart⟩

theorem SlIn.drew (h : SlIn w sb tb mb n l lb tm lv) : SlIn w.drew sb tb mb n l lb tm lv := h.below (Below.refl _ _).drew

/-- Other levels, and another time. -/
theorem SlIn.turn (h : SlIn w sb tb mb n l lb tm lv) {lb' tm' : Nat} {lv' : Lv} (ho : OwnsV w lb' lv') (hok : OkV lv') (hf : lv'.length ≤ 64) (ht : tm' ≤ 1000000000000) (hn : sb ≠ lb' ∧ tb ≠ lb' ∧ mb ≠ lb') :
    SlIn ((w.setCell ⟨sb, 4, none⟩ (.map (some lb'))).setCell ⟨sb, 3, none⟩ (.int .i64 tm')) sb tb mb n l lb' tm' lv' := by
  have hg : w.grownBy ((w.setCell ⟨sb, 4, none⟩ (.map (some lb'))).setCell ⟨sb, 3, none⟩ (.int .i64 tm')) (some sb) := (grown_set w sb 4 _).trans (grown_set _ sb 3 _)
  exact ⟨(h.at_.set4 _).set3 _, ho.kept hg (by simpa using fun e => hn.1 e.symm), hok, hf, ht, h.low, hn.1, h.table.blocks hg (by simpa using fun e => h.apart.1 e.symm) (by simpa using fun e => h.apart.2.1 e.symm), h.okp, h.apart.1, h.apart.2.1, hn.2.1, hn.2.2⟩
end

set_option maxRecDepth 100000 in
set_option maxHeartbeats 1000000 in
theorem now_any (l : List (Sl.Subj × Sl.Lim)) (sb tb mb n lb tm : Nat) (lv : Lv) (w : World) (h : IsSl w sb tb mb n l lb tm lv) :
    Calls Tryz.prog 30 #[.pointer (some ⟨sb, 0, none⟩)] w fun e w' => e = .returned (.int .i64 (tm : Nat)) ∧ IsSl w' sb tb mb n l lb tm lv ∧ w.grownBy w' (some sb) := by
  obtain ⟨_, c1, _, _, fz⟩ := h.core.at_.cells
  have hlock := hide (lock_free ⟨sb, 1, none⟩ w c1 (fz 1))
  have hI := h.lock
  obtain ⟨_, d1, d3, _, gz⟩ := hI.at_.cells
  have HI := hide hI
  clear h hI c1 fz
  go_enter_defers Tryz.func30, Tryz.ntmps30
  go_wp2_with fail
  refine (unhide hlock).mono ?_
  rintro e w' ⟨rfl, rfl⟩
  go_wp2
  refine leaves_cons (f := 50) (args := #[.pointer (some ⟨sb, 1, none⟩)]) (by simp) (by simp [go_sem]) ?_
  refine (unlock_deferred ⟨sb, 1, none⟩ .returning _ d1 (gz 1)).mono ?_
  rintro e u' w2 ⟨rfl, rfl, rfl⟩
  exact ⟨_, results_tmp rfl _ _ _, rfl, (unhide HI).unlock, (grown_set w sb 1 _).trans (grown_set _ sb 1 _)⟩

set_option maxRecDepth 100000 in
set_option maxHeartbeats 1000000 in
theorem sweep_any (l : List (Sl.Subj × Sl.Lim)) (sb tb mb n lb tm : Nat) (lv : Lv) (w : World) (h : IsSl w sb tb mb n l lb tm lv) :
    Calls Tryz.prog 33 #[.pointer (some ⟨sb, 0, none⟩)] w fun e w' => e = .returned (.int .i64 (lv.length : Nat)) ∧ IsSl w' sb tb mb n l lb tm lv ∧ w.grownBy w' (some sb) := by
  obtain ⟨_, c1, _, _, fz⟩ := h.core.at_.cells
  have hlock := hide (lock_free ⟨sb, 1, none⟩ w c1 (fz 1))
  have hI := h.lock
  obtain ⟨_, d1, _, d4, gz⟩ := hI.at_.cells
  have HI := hide hI
  obtain ⟨D, hD, hr⟩ := hI.lev
  have hsz := hr.size
  have hlenD := hD.len Tryz.underlying91
  have hlen : ∀ ty, (Builtin.len_ #[91] ty #[.map (some lb)]).run Tryz.prog (w.setCell ⟨sb, 1, none⟩ (.int .i32 1)) = .ok (.int .i64 (lv.length : Nat)) (w.setCell ⟨sb, 1, none⟩ (.int .i32 1)) := fun ty => by rw [hlenD ty, hsz]
  clear h hI c1 fz hlenD hD hr hsz
  go_enter_defers Tryz.func33, Tryz.ntmps33
  go_wp2_with fail
  refine (unhide hlock).mono ?_
  rintro e w' ⟨rfl, rfl⟩
  go_wp2
  refine leaves_cons (f := 50) (args := #[.pointer (some ⟨sb, 1, none⟩)]) (by simp) (by simp [go_sem]) ?_
  refine (unlock_deferred ⟨sb, 1, none⟩ .returning _ d1 (gz 1)).mono ?_
  rintro e u' w2 ⟨rfl, rfl, rfl⟩
  exact ⟨_, results_tmp rfl _ _ _, rfl, (unhide HI).unlock, (grown_set w sb 1 _).trans (grown_set _ sb 1 _)⟩

/-- What Level answers: the level, the error. -/
def levelA (lv : Lv) (cls org ten : List UInt8) : Nat × Nat :=
  if (bucketA cls org ten).2 = true then (levOf lv ((bucketA cls org ten).1, org, ten), 0) else (0, 5)

set_option maxRecDepth 100000 in
set_option maxHeartbeats 1000000 in
theorem level_any (l : List (Sl.Subj × Sl.Lim)) (sb tb mb n lb tm : Nat) (lv : Lv) (cls org ten : List UInt8) (w : World) (h : IsSl w sb tb mb n l lb tm lv) :
    Calls Tryz.prog 28 #[.pointer (some ⟨sb, 0, none⟩), .string ⟨cls.toArray⟩, .string ⟨org.toArray⟩, .string ⟨ten.toArray⟩] w fun e w' => e = .returned (.tuple #[.int .i64 (levelA lv cls org ten).1, .int .i64 (levelA lv cls org ten).2]) ∧ IsSl w' sb tb mb n l lb tm lv ∧ w.grownBy w' (some sb) := by
  have hrb := fun w => readKey_any cls org ten w
  have HH := hide h; clear h
  unfold levelA
  have hok := fun h => bucketA_ok (cls := cls) (org := org) (ten := ten) h
  have hka := fun h => keyA_of (cls := cls) (org := org) (ten := ten) h
  generalize bucketA cls org ten = ba at *
  generalize keyA cls org ten = ka at *
  obtain ⟨c, good⟩ := ba
  simp only [] at *
  cases good with
  | false =>
    clear hok hka
    simp only [Bool.false_eq_true, if_false]
    have HRB := hide hrb; clear hrb
    unfold keyV at HRB
    go_enter_defers Tryz.func28, Tryz.ntmps28
    go_wp2_with fail
    refine (unhide HRB _).mono ?_
    rintro e w1 ⟨rfl, hb⟩
    have HB := hide hb; clear hb
    go_wp2
    have hb := unhide HB
    exact ⟨_, results_tmp2 rfl _ _ _, rfl, (unhide HH).below (hb.alloc hb.size _), grown_below (hb.alloc hb.size _)⟩
  | true =>
    obtain ⟨hc2, ho, ht⟩ := hok rfl
    have hk2 := hka rfl
    subst hk2
    simp only [if_true]
    clear hok hka
    have HRB := hide hrb; clear hrb
    unfold keyV at HRB
    go_enter_defers Tryz.func28, Tryz.ntmps28
    go_wp2_with fail
    refine (unhide HRB _).mono ?_
    rintro e w1 ⟨rfl, hb⟩
    obtain ⟨X, hX⟩ : ∃ X, X = w1.alloc (.cells #[.int .i64 c, .string ⟨org.toArray⟩, .string ⟨ten.toArray⟩] 118) := ⟨_, rfl⟩
    have hbX : Below w.heap.size w X := by rw [hX]; exact hb.alloc hb.size _
    have hIX := (unhide HH).below hbX
    obtain ⟨_, c1, _, _, fz⟩ := hIX.core.at_.cells
    have hlock := hide (lock_free ⟨sb, 1, none⟩ X c1 (fz 1))
    have hI := hIX.lock
    obtain ⟨_, d1, _, d4, gz⟩ := hI.at_.cells
    have hsb : sb < w1.heap.size := Nat.lt_of_lt_of_le (unhide HH).lt hb.size
    have hK : Three X w1.heap.size (.int .i64 c) (.string ⟨org.toArray⟩) (.string ⟨ten.toArray⟩) := by rw [hX]; exact Three.made w1 _ _ _ _
    obtain ⟨k0, k1, k2, -, -, -, kn⟩ := hK
    have hgS := grown_set X sb 1 (.int .i32 1)
    have hgb := hgS.block w1.heap.size kn (by simp; omega)
    have k0' := (World.cell?_of_block (a := ⟨w1.heap.size, 0, none⟩) hgb).trans k0
    have k1' := (World.cell?_of_block (a := ⟨w1.heap.size, 1, none⟩) hgb).trans k1
    have k2' := (World.cell?_of_block (a := ⟨w1.heap.size, 2, none⟩) hgb).trans k2
    have hlk := look_lev hI.lev hI.ok (k := (c, org, ten)) ⟨hc2, ho, ht⟩
    have hlkd := look_lev hI.drew.lev hI.ok (k := (c, org, ten)) ⟨hc2, ho, ht⟩
    unfold keyV at hlk hlkd
    simp only [] at hlk hlkd
    have HG := hide ((grown_below (row := some sb) hbX).trans (grown_set X sb 1 (.int .i32 1)))
    have HX := hide hX; have HI := hide hI
    clear hb hbX hIX hI k0 k1 k2 fz c1 hgS hgb hX
    go_wp2_with fail
    rw [← unhide HX]
    refine (unhide hlock).mono ?_
    rintro e w2 ⟨rfl, rfl⟩
    generalize X.setCell ⟨sb, 1, none⟩ (.int .i32 1) = Y at *
    go_wp2_with fail
    go_region_held3 (fun w' => w' = Y.drew) (first | rfl | assumption) (fail)
    go_wp2
    refine leaves_cons (f := 50) (args := #[.pointer (some ⟨sb, 1, none⟩)]) (by simp) (by simp [go_sem]) ?_
    refine (unlock_deferred ⟨sb, 1, none⟩ .returning Y.drew d1 (gz 1)).mono ?_
    rintro e u' w3 ⟨rfl, rfl, rfl⟩
    exact ⟨_, results_tmp2 rfl _ _ _, rfl, (unhide HI).drew.unlock, ((unhide HG).trans (grown_drew _)).trans (grown_set _ sb 1 _)⟩

set_option maxRecDepth 100000 in
set_option maxHeartbeats 1000000 in
theorem tick_bad (l : List (Sl.Subj × Sl.Lim)) (sb tb mb n lb tm : Nat) (lv : Lv) (d : Int) (w : World) (h : IsSl w sb tb mb n l lb tm lv) (hd : d < 0 ∨ 1000000000000 < tm + d) :
    Calls Tryz.prog 31 #[.pointer (some ⟨sb, 0, none⟩), .int .i64 d] w fun e w' => e = .returned (.int .i64 4) ∧ IsSl w' sb tb mb n l lb tm lv ∧ w.grownBy w' (some sb) := by
  obtain ⟨_, c1, _, _, fz⟩ := h.core.at_.cells
  have hlock := hide (lock_free ⟨sb, 1, none⟩ w c1 (fz 1))
  have hI := h.lock
  obtain ⟨_, d1, d3, _, gz⟩ := hI.at_.cells
  have htm := hI.time
  have HI := hide hI
  clear h hI c1 fz
  by_cases hn : d < 0
  · clear hd
    go_enter_defers Tryz.func31, Tryz.ntmps31
    go_wp2_with fail
    refine (unhide hlock).mono ?_
    rintro e w' ⟨rfl, rfl⟩
    go_wp2
    refine leaves_cons (f := 50) (args := #[.pointer (some ⟨sb, 1, none⟩)]) (by simp) (by simp [go_sem]) ?_
    refine (unlock_deferred ⟨sb, 1, none⟩ .returning _ d1 (gz 1)).mono ?_
    rintro e u' w2 ⟨rfl, rfl, rfl⟩
    exact ⟨_, results_tmp rfl _ _ _, rfl, (unhide HI).unlock, (grown_set w sb 1 _).trans (grown_set _ sb 1 _)⟩
  · have hd2 : (1000000000000 : Int) - tm < d := by omega
    clear hd
    go_enter_defers Tryz.func31, Tryz.ntmps31
    go_wp2_with fail
    refine (unhide hlock).mono ?_
    rintro e w' ⟨rfl, rfl⟩
    go_wp2
    refine leaves_cons (f := 50) (args := #[.pointer (some ⟨sb, 1, none⟩)]) (by simp) (by simp [go_sem]) ?_
    refine (unlock_deferred ⟨sb, 1, none⟩ .returning _ d1 (gz 1)).mono ?_
    rintro e u' w2 ⟨rfl, rfl, rfl⟩
    exact ⟨_, results_tmp rfl _ _ _, rfl, (unhide HI).unlock, (grown_set w sb 1 _).trans (grown_set _ sb 1 _)⟩

set_option maxRecDepth 100000 in
set_option maxHeartbeats 1000000 in
theorem tick_good (l : List (Sl.Subj × Sl.Lim)) (sb tb mb n lb tm : Nat) (lv : Lv) (d : Nat) (w : World) (h : IsSl w sb tb mb n l lb tm lv) (hd : tm + d ≤ 1000000000000) :
    Calls Tryz.prog 31 #[.pointer (some ⟨sb, 0, none⟩), .int .i64 d] w fun e w' => e = .returned (.int .i64 0) ∧ ∃ lb', IsSl w' sb tb mb n l lb' (tm + d) (fallV l d lv) ∧ w.grownBy w' (some sb) ∧ w.heap.size ≤ lb' := by
  obtain ⟨_, c1, _, _, fz⟩ := h.core.at_.cells
  have hlock := hide (lock_free ⟨sb, 1, none⟩ w c1 (fz 1))
  have hI := h.lock
  have hgW := hide (grown_set w sb 1 (.int .i32 1))
  have hsz : (w.setCell ⟨sb, 1, none⟩ (.int .i32 1)).heap.size = w.heap.size := by simp
  obtain ⟨W, hW⟩ : ∃ W, W = w.setCell ⟨sb, 1, none⟩ (.int .i32 1) := ⟨_, rfl⟩
  rw [← hW] at hI hgW hsz
  have HSZ := hide hsz
  have HW := hide hW
  obtain ⟨_, d1, d3, d4, gz⟩ := hI.at_.cells
  have htm := hI.time
  have hId := hI.drew
  have hld := hide (load_any sb tb W.drew hId.at_.cells.1 hId.table.shape)
  have haf := hide (after_any l tb mb n lb lv d W.drew hId.table hId.lev hId.ok (Nat.le_trans hId.few (by omega)) (by omega))
  have HI := hide hId
  have hlt := hI.at_.lt
  have q1 : ¬ (d : Int) < 0 := by omega
  have q2 : ¬ (1000000000000 : Int) - tm < d := by omega
  clear h hI hId c1 fz hW hsz
  go_enter_defers Tryz.func31, Tryz.ntmps31
  go_wp2_with fail
  refine (unhide hlock).mono ?_
  rintro e w' ⟨rfl, rfl⟩
  rw [← unhide HW]
  go_wp2_with fail
  refine wp_region_noPanic ?_
  go_region_with (first
      | (go_at_call 43; refine (unhide hld).mono ?_; rintro e w2 ⟨rfl, rfl⟩)
      | (go_at_call 52; refine (unhide haf).mono ?_; rintro e w3 ⟨rfl, ho3, hb3⟩; have HO3 := hide ho3; have HB3 := hide hb3; have hI3 := (unhide HI).below hb3; have HI3 := hide hI3; obtain ⟨_, x1, x3, x4, xz⟩ := hI3.at_.cells; have x4f := xz 4; have x3f := xz 3; clear ho3 hb3 hI3))
  all_goals
    first | refine NoPanic.normal ?_ | skip
    have hn1 : sb ≠ W.heap.size ∧ tb ≠ W.heap.size ∧ mb ≠ W.heap.size := ⟨by omega, Nat.ne_of_lt (unhide HI).table.lt, Nat.ne_of_lt (unhide HI).table.own.lt⟩
    have hT := (unhide HI3).turn (lb' := W.heap.size) (tm' := tm + d) (unhide HO3) ((unhide HI).ok.fall l d) (Nat.le_trans (fallV_len _ _ _) (unhide HI).few) (by omega) hn1
    have eT : ((tm + d : Nat) : Int) = (tm : Int) + d := by omega
    rw [eT] at hT
    obtain ⟨_, y1, _, _, yz⟩ := hT.at_.cells
    have HT := hide hT
    clear hT
    go_wp2
    refine leaves_cons (f := 50) (args := #[.pointer (some ⟨sb, 1, none⟩)]) (by simp) (by simp [go_sem]) ?_
    refine (unlock_deferred ⟨sb, 1, none⟩ .returning _ y1 (yz 1)).mono ?_
    rintro e u' w5 ⟨rfl, rfl, rfl⟩
    have hfin := (unhide HT).unlock
    have hgr : w.grownBy w3 (some sb) := ((unhide hgW).trans (grown_drew _)).trans (grown_below (unhide HB3))
    exact ⟨_, results_tmp rfl _ _ _, rfl, W.heap.size, hfin, ((hgr.trans (grown_set _ sb 4 _)).trans (grown_set _ sb 3 _)).trans (grown_set _ sb 1 _), by have := unhide HSZ; omega⟩

end Go.Proofs.YthmhfilkgggagaaGreatDoor

namespace Go.Proofs.YthmhfilkgggagaaGreatDoor
open Go.RowKit Go.Maps Go.Sort

abbrev reqV (cls org ten : List UInt8) (cost : Int) : Value := .agg #[.string ⟨cls.toArray⟩, .string ⟨org.toArray⟩, .string ⟨ten.toArray⟩, .int .i64 cost]

theorem four_made (w : World) (a b c d : Value) (t : TypeId) : (w.alloc (.cells #[a, b, c, d] t)).cell? ⟨w.heap.size, 0, none⟩ = some a ∧ (w.alloc (.cells #[a, b, c, d] t)).cell? ⟨w.heap.size, 1, none⟩ = some b ∧ (w.alloc (.cells #[a, b, c, d] t)).cell? ⟨w.heap.size, 2, none⟩ = some c ∧ (w.alloc (.cells #[a, b, c, d] t)).cell? ⟨w.heap.size, 3, none⟩ = some d := by
  refine ⟨?_, ?_, ?_, ?_⟩ <;> simp [go_sem]

/-- What stands in memory behind readKey in Admit. -/
theorem req_kept (cls org ten : List UInt8) (cost : Int) (w w1 : World) (hb : Below ((w.alloc (.cells #[.string ⟨cls.toArray⟩, .string ⟨org.toArray⟩, .string ⟨ten.toArray⟩, .int .i64 cost] 65)).alloc (.cells #[.int .i64 0, .int .i64 0, .int .i64 0] 61)).heap.size ((w.alloc (.cells #[.string ⟨cls.toArray⟩, .string ⟨org.toArray⟩, .string ⟨ten.toArray⟩, .int .i64 cost] 65)).alloc (.cells #[.int .i64 0, .int .i64 0, .int .i64 0] 61)) w1) :
    w1.cell? ⟨w.heap.size, 2, none⟩ = some (.string ⟨ten.toArray⟩) ∧ w1.cell? ⟨w.heap.size, 3, none⟩ = some (.int .i64 cost) ∧ Three w1 (w.heap.size + 1) (.int .i64 0) (.int .i64 0) (.int .i64 0) ∧ Below w.heap.size w w1 ∧ w.heap.size + 2 ≤ w1.heap.size := by
  have h4 := four_made w (.string ⟨cls.toArray⟩) (.string ⟨org.toArray⟩) (.string ⟨ten.toArray⟩) (.int .i64 cost) 65
  have b2 := Below.alloc1 (w.alloc (.cells #[.string ⟨cls.toArray⟩, .string ⟨org.toArray⟩, .string ⟨ten.toArray⟩, .int .i64 cost] 65)) (.cells #[.int .i64 0, .int .i64 0, .int .i64 0] 61)
  refine ⟨(hb.cell (p := ⟨w.heap.size, 2, none⟩) (by simp; omega)).trans ((b2.cell (p := ⟨w.heap.size, 2, none⟩) (by simp)).trans h4.2.2.1), (hb.cell (p := ⟨w.heap.size, 3, none⟩) (by simp; omega)).trans ((b2.cell (p := ⟨w.heap.size, 3, none⟩) (by simp)).trans h4.2.2.2), ?_, ?_, ?_⟩
  · have := Three.made (w.alloc (.cells #[.string ⟨cls.toArray⟩, .string ⟨org.toArray⟩, .string ⟨ten.toArray⟩, .int .i64 cost] 65)) (.int .i64 0) (.int .i64 0) (.int .i64 0) 61
    rw [World.size_alloc] at this
    exact this.keep hb (by simp)
  · exact ((Below.alloc1 w _).alloc (by simp) _).trans (hb.mono (by simp; omega))
  · have := hb.size
    simpa using this

theorem bad_ends {w w1 : World} {o : Obj} (hb : Below w.heap.size w w1) (a b c : Value) : Below w.heap.size w ((((w1.setCell ⟨w.heap.size + 1, 0, none⟩ a).setCell ⟨w.heap.size + 1, 1, none⟩ b).setCell ⟨w.heap.size + 1, 2, none⟩ c).alloc o) :=
  (((hb.setCell (by simp) _).setCell (by simp) _).setCell (by simp) _).alloc (by simpa using hb.size) o

set_option maxRecDepth 100000 in
set_option maxHeartbeats 2000000 in
theorem admit_name (sb : Nat) (cls org ten : List UInt8) (cost : Int) (w : World) (h1 : (bucketA cls org ten).2 = false ∨ ten = []) :
    Calls Tryz.prog 29 #[.pointer (some ⟨sb, 0, none⟩), reqV cls org ten cost] w fun e w' => e = .returned (.tuple #[.agg #[.int .i64 0, .int .i64 0, .int .i64 0], .int .i64 5]) ∧ Below w.heap.size w w' := by
  have hrb := fun w => readKey_any cls org ten w
  have HQ := hide (req_kept cls org ten cost w)
  unfold reqV
  cases hg : (bucketA cls org ten).2 with
  | false =>
    rw [hg] at hrb
    generalize keyA cls org ten = ka at *
    have HRB := hide hrb
    unfold keyV at HRB
    clear hrb hg h1
    go_enter_defers Tryz.func29, Tryz.ntmps29
    go_wp2_with fail
    refine (unhide HRB _).mono ?_
    rintro e w1 ⟨rfl, hb⟩
    obtain ⟨r2, r3, ⟨v0, v1, v2, z0, z1, z2, zn⟩, hb1, hz⟩ := unhide HQ w1 hb
    have HB := hide hb1
    clear hb hb1
    have n5 : ¬ w.heap.size + 1 = w1.heap.size := by omega
    have n6 : ¬ w1.heap.size = w.heap.size + 1 := by omega
    go_wp2
    refine ⟨.tuple #[.agg #[.int .i64 0, .int .i64 0, .int .i64 0], .int .i64 5], by simp [results, Tryz.results29, go_sem, v0, v1, v2, zn], rfl, ?_⟩
    exact bad_ends (unhide HB) _ _ _
  | true =>
    have ht : ten = [] := by
      rcases h1 with h1 | h1
      · rw [hg] at h1; cases h1
      · exact h1
    subst ht
    rw [hg] at hrb
    generalize keyA cls org [] = ka at *
    have HRB := hide hrb
    unfold keyV at HRB
    clear hrb hg h1
    go_enter_defers Tryz.func29, Tryz.ntmps29
    go_wp2_with fail
    refine (unhide HRB _).mono ?_
    rintro e w1 ⟨rfl, hb⟩
    obtain ⟨r2, r3, ⟨v0, v1, v2, z0, z1, z2, zn⟩, hb1, hz⟩ := unhide HQ w1 hb
    have HB := hide hb1
    clear hb hb1
    have n5 : ¬ w.heap.size + 1 = w1.heap.size := by omega
    have n6 : ¬ w1.heap.size = w.heap.size + 1 := by omega
    have n7 : w.heap.size < w1.heap.size := by omega
    go_wp2
    refine ⟨.tuple #[.agg #[.int .i64 0, .int .i64 0, .int .i64 0], .int .i64 5], by simp [results, Tryz.results29, go_sem, v0, v1, v2, zn], rfl, ?_⟩
    exact bad_ends (unhide HB) _ _ _

set_option maxRecDepth 100000 in
set_option maxHeartbeats 2000000 in
theorem admit_range (sb : Nat) (cls org ten : List UInt8) (cost : Int) (w : World) (hg : (bucketA cls org ten).2 = true) (hne : ten ≠ []) (h1 : cost < 1 ∨ 1000000 < cost) :
    Calls Tryz.prog 29 #[.pointer (some ⟨sb, 0, none⟩), reqV cls org ten cost] w fun e w' => e = .returned (.tuple #[.agg #[.int .i64 0, .int .i64 0, .int .i64 0], .int .i64 4]) ∧ Below w.heap.size w w' := by
  have hrb := fun w => readKey_any cls org ten w
  have HQ := hide (req_kept cls org ten cost w)
  unfold reqV
  rw [hg] at hrb
  generalize keyA cls org ten = ka at *
  have HRB := hide hrb
  unfold keyV at HRB
  have hten : ten.isEmpty = false := by cases ten <;> simp at hne ⊢
  clear hrb hg
  by_cases h2 : cost < 1
  · clear h1
    go_enter_defers Tryz.func29, Tryz.ntmps29
    go_wp2_with fail
    refine (unhide HRB _).mono ?_
    rintro e w1 ⟨rfl, hb⟩
    obtain ⟨r2, r3, ⟨v0, v1, v2, z0, z1, z2, zn⟩, hb1, hz⟩ := unhide HQ w1 hb
    have HB := hide hb1
    clear hb hb1
    have n5 : ¬ w.heap.size + 1 = w1.heap.size := by omega
    have n6 : ¬ w1.heap.size = w.heap.size + 1 := by omega
    have n7 : w.heap.size < w1.heap.size := by omega
    go_wp2
    refine ⟨.tuple #[.agg #[.int .i64 0, .int .i64 0, .int .i64 0], .int .i64 4], by simp [results, Tryz.results29, go_sem, v0, v1, v2, zn], rfl, ?_⟩
    exact bad_ends (unhide HB) _ _ _
  · have h3 : (1000000 : Int) < cost := by omega
    clear h1
    go_enter_defers Tryz.func29, Tryz.ntmps29
    go_wp2_with fail
    refine (unhide HRB _).mono ?_
    rintro e w1 ⟨rfl, hb⟩
    obtain ⟨r2, r3, ⟨v0, v1, v2, z0, z1, z2, zn⟩, hb1, hz⟩ := unhide HQ w1 hb
    have HB := hide hb1
    clear hb hb1
    have n5 : ¬ w.heap.size + 1 = w1.heap.size := by omega
    have n6 : ¬ w1.heap.size = w.heap.size + 1 := by omega
    have n7 : w.heap.size < w1.heap.size := by omega
    go_wp2
    refine ⟨.tuple #[.agg #[.int .i64 0, .int .i64 0, .int .i64 0], .int .i64 4], by simp [results, Tryz.results29, go_sem, v0, v1, v2, zn], rfl, ?_⟩
    exact bad_ends (unhide HB) _ _ _

end Go.Proofs.YthmhfilkgggagaaGreatDoor

namespace Go.Proofs.YthmhfilkgggagaaGreatDoor
open Go.RowKit Go.Maps Go.Sort

/-- Of the blocks that were there those of S alone may have turned. -/
structure Only (S : Nat → Prop) (w w' : World) : Prop where
  os : w'.os = w.os
  tape : w'.tape = w.tape
  output : w'.output = w.output
  size : w.heap.size ≤ w'.heap.size
  block : ∀ k, k < w.heap.size → ¬ S k → w'.heap[k]? = w.heap[k]?

theorem Only.refl (S : Nat → Prop) (w : World) : Only S w w := ⟨rfl, rfl, rfl, Nat.le_refl _, fun _ _ _ => rfl⟩

theorem Only.trans {S T : Nat → Prop} {w w' w'' : World} (h : Only S w w') (h2 : Only T w' w'') (hT : ∀ k, k < w.heap.size → T k → S k) : Only S w w'' :=
  ⟨h2.os.trans h.os, h2.tape.trans h.tape, h2.output.trans h.output, Nat.le_trans h.size h2.size, fun k hk hn => (h2.block k (Nat.lt_of_lt_of_le hk h.size) (fun hk2 => hn (hT k hk hk2))).trans (h.block k hk hn)⟩

theorem Only.mono {S T : Nat → Prop} {w w' : World} (h : Only S w w') (hS : ∀ k, k < w.heap.size → S k → T k) : Only T w w' :=
  ⟨h.os, h.tape, h.output, h.size, fun k hk hn => h.block k hk (fun h2 => hn (hS k hk h2))⟩

theorem Only.grown {S : Nat → Prop} {w w' : World} {row : Option Nat} (hg : w.grownBy w' row) (h : ∀ k, row = some k → k < w.heap.size → S k) : Only S w w' :=
  ⟨hg.os, hg.tape, hg.output, hg.size, fun k hk hn => hg.block k hk (fun e => hn (h k e.symm hk))⟩

theorem Only.below {S : Nat → Prop} {w w' : World} (hb : Below w.heap.size w w') : Only S w w' :=
  ⟨hb.os, hb.tape, hb.output, hb.size, fun k hk _ => hb.block k hk⟩

/-- What was there long before is as it was, if none of it is in S. -/
theorem Only.old {S : Nat → Prop} {w0 w w' : World} (hb : Below w0.heap.size w0 w) (h : Only S w w') (hS : ∀ k, S k → w0.heap.size ≤ k) : Below w0.heap.size w0 w' :=
  ⟨h.os.trans hb.os, h.tape.trans hb.tape, h.output.trans hb.output, Nat.le_trans hb.size h.size, fun k hk => (h.block k (Nat.lt_of_lt_of_le hk hb.size) (fun h2 => by have := hS k h2; omega)).trans (hb.block k hk)⟩

theorem Only.env {S : Nat → Prop} {w w' : World} (hE : Env w) (h : Only S w w') (hS : ∀ k, S k → 7 ≤ k) : Env w' :=
  hE.below (B := 7) ⟨h.os, h.tape, h.output, h.size, fun k hk => h.block k (Nat.lt_of_lt_of_le hk hE.size) (fun h2 => by have := hS k h2; omega)⟩ (Nat.le_refl _)

theorem Only.cell {S : Nat → Prop} {w w' : World} (h : Only S w w') {b o : Nat} (hb : b < w.heap.size) (hn : ¬ S b) : w'.cell? ⟨b, o, none⟩ = w.cell? ⟨b, o, none⟩ := World.cell?_of_block (h.block b hb hn)

theorem row_of {w w' : World} {B e size n : Nat} {v : Value} {xs : List Value} (h : w.ownsRow B e size v n xs) (hb : ∀ g, v.ownBlock = some g → w'.heap[g]? = w.heap[g]?) : w'.ownsRow B e size v n xs := by
  refine ⟨h.1, ?_⟩
  rcases h.2 with h2 | ⟨g, cap, cur, e1, h1, hg, rest⟩
  · exact .inl h2
  · exact .inr ⟨g, cap, cur, e1, h1, (hb g (by rw [e1]; rfl)).trans hg, rest⟩

theorem row_lt {w : World} {B e size n : Nat} {v : Value} {xs : List Value} (h : w.ownsRow B e size v n xs) {g : Nat} (hv : v.ownBlock = some g) : g < w.heap.size := by
  rcases h.2 with ⟨e1, _⟩ | ⟨g', cap, cur, e1, _, hg, _⟩
  · rw [e1] at hv; cases hv
  · rw [e1] at hv; cases hv
    exact (Array.getElem?_eq_some_iff.1 hg).1

theorem OwnsV.of_block {w w' : World} {b : Nat} {lv : Lv} (h : OwnsV w b lv) (e : w'.heap[b]? = w.heap[b]?) : OwnsV w' b lv := by
  obtain ⟨D, ⟨es, clock, h1, rest⟩, hr⟩ := h
  exact ⟨D, ⟨es, clock, e.trans h1, rest⟩, hr⟩

theorem IsTable.of_blocks {w w' : World} {tb mb n : Nat} {l : List (Sl.Subj × Sl.Lim)} (h : IsTable w tb mb n l) (e1 : w'.heap[tb]? = w.heap[tb]?) (e2 : w'.heap[mb]? = w.heap[mb]?) : IsTable w' tb mb n l := by
  refine ⟨?_, ?_, h.ok, h.low, h.ne⟩
  · rcases h.cells with c | c
    · exact .inl (e1.trans c)
    · exact .inr (e1.trans c)
  · obtain ⟨es, clock, h1, rest⟩ := h.own
    exact ⟨es, clock, e2.trans h1, rest⟩

/-- The four blocks of a sluice. -/
def footS (sb tb mb lb : Nat) (k : Nat) : Prop := k = sb ∨ k = tb ∨ k = mb ∨ k = lb

theorem IsSl.foot_lt {w : World} {sb tb mb n : Nat} {l : List (Sl.Subj × Sl.Lim)} {lb tm : Nat} {lv : Lv} (h : IsSl w sb tb mb n l lb tm lv) {k : Nat} (hk : footS sb tb mb lb k) : k < w.heap.size := by
  rcases hk with rfl | rfl | rfl | rfl
  · exact h.lt
  · exact h.table.lt
  · exact h.table.own.lt
  · exact h.core.lev.lt

theorem IsSl.of_only {S : Nat → Prop} {w w' : World} {sb tb mb n : Nat} {l : List (Sl.Subj × Sl.Lim)} {lb tm : Nat} {lv : Lv} (h : IsSl w sb tb mb n l lb tm lv) (ho : Only S w w') (hS : ∀ k, footS sb tb mb lb k → ¬ S k) : IsSl w' sb tb mb n l lb tm lv := by
  have hb : ∀ k, footS sb tb mb lb k → w'.heap[k]? = w.heap[k]? := fun k hk => ho.block k (h.foot_lt hk) (hS k hk)
  exact ⟨⟨(hb sb (.inl rfl)).trans h.core.at_, h.core.lev.of_block (hb lb (.inr (.inr (.inr rfl)))), h.core.ok, h.core.few, h.core.time, h.core.low, h.core.ne⟩, h.table.of_blocks (hb tb (.inr (.inl rfl))) (hb mb (.inr (.inr (.inl rfl)))), h.okp, h.apart⟩

end Go.Proofs.YthmhfilkgggagaaGreatDoor

namespace Go.Proofs.YthmhfilkgggagaaGreatDoor
open Go.RowKit Go.Maps Go.Sort

structure St where
  sb : Nat
  tb : Nat
  mb : Nat
  n : Nat
  lb : Nat
  tm : Nat
  l : List (Sl.Subj × Sl.Lim)
  lv : Lv

def St.At (s : St) (w : World) : Prop := IsSl w s.sb s.tb s.mb s.n s.l s.lb s.tm s.lv
def St.foot (s : St) (k : Nat) : Prop := footS s.sb s.tb s.mb s.lb k

/-- A call on the sluice led from s to t. -/
structure Went (s t : St) (w w' : World) : Prop where
  at_ : t.At w'
  only : Only s.foot w w'
  foot : ∀ k, t.foot k → s.foot k ∨ w.heap.size ≤ k
  sb : t.sb = s.sb

/-- A row of cells that no call on the sluice s touches. -/
structure Held (s : St) (W : World) (b : Nat) (cs : List Value) : Prop where
  at_ : ∀ (j : Nat) (v : Value), cs[j]? = some v → W.cell? ⟨b, j, none⟩ = some v
  lt : b < W.heap.size
  off : ¬ s.foot b

theorem St.At.lt {s : St} {w : World} (h : s.At w) {k : Nat} (hk : s.foot k) : k < w.heap.size := IsSl.foot_lt h hk

theorem Went.of_below {s : St} {w w' : World} (h : s.At w) (hb : Below w.heap.size w w') : Went s s w w' :=
  ⟨IsSl.below h hb, Only.below hb, fun _ hk => .inl hk, rfl⟩

theorem Went.refl {s : St} {w : World} (h : s.At w) : Went s s w w := ⟨h, Only.refl _ _, fun _ hk => .inl hk, rfl⟩

theorem Went.trans {s t u : St} {w w' w'' : World} (h : Went s t w w') (h2 : Went t u w' w'') : Went s u w w'' := by
  refine ⟨h2.at_, h.only.trans h2.only (fun k hk ht => ?_), fun k hk => ?_, h2.sb.trans h.sb⟩
  · rcases h.foot k ht with h3 | h3
    · exact h3
    · omega
  · rcases h2.foot k hk with h3 | h3
    · exact h.foot k h3
    · exact .inr (Nat.le_trans h.only.size h3)

theorem Held.went {s t : St} {w w' : World} {b : Nat} {cs : List Value} (h : Held s w b cs) (hw : Went s t w w') : Held t w' b cs :=
  ⟨fun j v hv => (hw.only.cell h.lt h.off).trans (h.at_ j v hv), Nat.lt_of_lt_of_le h.lt hw.only.size, fun hk => by
    rcases hw.foot b hk with h3 | h3
    · exact h.off h3
    · have := h.lt; omega⟩

theorem Held.below {s : St} {w w' : World} {b : Nat} {cs : List Value} (h : Held s w b cs) (hb : Below w.heap.size w w') : Held s w' b cs :=
  ⟨fun j v hv => (hb.cell (p := ⟨b, j, none⟩) h.lt).trans (h.at_ j v hv), Nat.lt_of_lt_of_le h.lt hb.size, h.off⟩

/-- A new row: it is none of the sluice's. -/
theorem Held.made {s : St} {w : World} (h : s.At w) (cs : Array Value) (t : TypeId) : Held s (w.alloc (.cells cs t)) w.heap.size cs.toList :=
  ⟨fun j v hv => by
    simp only [World.cell?, (MapKept.heap_alloc w (.cells cs t)).1]
    simpa using hv, by simp, fun hk => by have := h.lt hk; omega⟩

/-- What goes along: the sluice, the environment, all that was there at the beginning. -/
structure Way (w0 : World) (s : St) (W : World) : Prop where
  at_ : s.At W
  env : Env W
  below : Below w0.heap.size w0 W
  low : 7 ≤ w0.heap.size
  foot : ∀ k, s.foot k → w0.heap.size ≤ k

theorem Way.went {w0 : World} {s t : St} {W W' : World} (h : Way w0 s W) (hw : Went s t W W') : Way w0 t W' :=
  ⟨hw.at_, hw.only.env h.env (fun k hk => Nat.le_trans h.low (h.foot k hk)), hw.only.old h.below h.foot, h.low, fun k hk => by
    rcases hw.foot k hk with h3 | h3
    · exact h.foot k h3
    · exact Nat.le_trans h.below.size h3⟩

theorem Way.step {w0 : World} {s : St} {W W' : World} (h : Way w0 s W) (hb : Below W.heap.size W W') : Way w0 s W' := h.went (Went.of_below h.at_ hb)
theorem Way.alloc {w0 : World} {s : St} {W : World} (h : Way w0 s W) (o : Obj) : Way w0 s (W.alloc o) := h.step (Below.alloc1 W o)
theorem Way.drew {w0 : World} {s : St} {W : World} (h : Way w0 s W) : Way w0 s W.drew := h.step (Below.refl _ _).drew

end Go.Proofs.YthmhfilkgggagaaGreatDoor

namespace Go.Proofs.YthmhfilkgggagaaGreatDoor
open Go.RowKit Go.Maps Go.Sort

theorem emptyN_two (lv : Lv) (a b : Kb) : emptyN lv [a, b] = (if levOf lv a = 0 then 1 else 0) + (if levOf lv b = 0 then 1 else 0) := by
  unfold emptyN
  simp only [List.countP_cons, List.countP_nil, decide_eq_true_eq]
  omega

/-- What is decided leaves levels as they must be. -/
theorem admitS_ok {l : List (Sl.Subj × Sl.Lim)} {lv : Lv} {k : Kb} {cost : Nat} (hv : OkV lv) (hT : OkT l) (hp : OkPos l) (hk : OkK k) (hne : k.2.2 ≠ []) (h0 : 1 ≤ cost) (hf : lv.length ≤ 64) :
    OkV (admitS l lv k cost).2 ∧ (admitS l lv k cost).2.length ≤ 64 := by
  have hko : OkK (k.1, k.2.1, []) := ⟨hk.1, hk.2.1, by simp⟩
  have hkk : k ≠ (k.1, k.2.1, []) := fun e => hne (by rw [e])
  unfold admitS
  split
  · exact ⟨hv, hf⟩
  · split
    · exact ⟨hv, hf⟩
    · next hroom =>
      split
      · exact ⟨hv, hf⟩
      · next hw =>
        have w1 : waitV (levOf lv (k.1, k.2.1, [])) (limK l (k.1, k.2.1, [])).rate (limK l (k.1, k.2.1, [])).burst cost = 0 := by omega
        have w2 : waitV (levOf lv k) (limK l k).rate (limK l k).burst cost = 0 := by omega
        have z1 := wait_zero (lim_pos hp _ hko.1).1 w1
        have z2 := wait_zero (lim_pos hp _ hk.1).1 w2
        have b1 := (lim_rate hT (k.1, k.2.1, [])).2
        have b2 := (lim_rate hT k).2
        have ok1 := hv.put hko (v := levOf lv (k.1, k.2.1, []) + cost * 1000000000) (by omega) (by omega)
        have e1 := levOf_put lv (k.1, k.2.1, []) (levOf lv (k.1, k.2.1, []) + cost * 1000000000) k hv ok1
        rw [if_neg hkk] at e1
        have ok2 := ok1.put hk (v := levOf lv k + cost * 1000000000) (by omega) (by omega)
        refine ⟨ok2, ?_⟩
        show (putV (putV lv (k.1, k.2.1, []) (levOf lv (k.1, k.2.1, []) + cost * 1000000000)) k (levOf lv k + cost * 1000000000)).length ≤ 64
        rw [put_len _ ok1, put_len _ hv, e1]
        rw [emptyN_two] at hroom
        omega


theorem SlIn.charged {w w' : World} {sb tb mb n : Nat} {l : List (Sl.Subj × Sl.Lim)} {lb tm : Nat} {lv LV : Lv} (h : SlIn w sb tb mb n l lb tm lv) (hg : w.grownBy w' (some lb)) (ho : OwnsV w' lb LV) (hok : OkV LV ∧ LV.length ≤ 64) : SlIn w' sb tb mb n l lb tm LV :=
  ⟨h.at_.grown hg (by simpa using h.ne), ho, hok.1, hok.2, h.time, h.low, h.ne, h.table.blocks hg (by simpa using h.apart.2.2.1) (by simpa using h.apart.2.2.2), h.okp, h.apart⟩

theorem SlIn.other {w w' : World} {sb tb mb n : Nat} {l : List (Sl.Subj × Sl.Lim)} {lb tm : Nat} {lv : Lv} (h : SlIn w sb tb mb n l lb tm lv) {x : Nat} (hg : w.grownBy w' (some x)) (hx : ¬ footS sb tb mb lb x) : SlIn w' sb tb mb n l lb tm lv :=
  ⟨h.at_.grown hg (by simpa using fun e => hx (.inl e.symm)), h.lev.kept hg (by simpa using fun e => hx (.inr (.inr (.inr e.symm)))), h.ok, h.few, h.time, h.low, h.ne, h.table.blocks hg (by simpa using fun e => hx (.inr (.inl e.symm))) (by simpa using fun e => hx (.inr (.inr (.inl e.symm)))), h.okp, h.apart⟩

/-- What Admit answers, and the levels behind it. -/
def admA (l : List (Sl.Subj × Sl.Lim)) (lv : Lv) (cls org ten : List UInt8) (cost : Int) : ((Nat × Nat × Nat) × Nat) × Lv :=
  if (bucketA cls org ten).2 = false ∨ ten = [] then (((0, 0, 0), 5), lv)
  else if cost < 1 ∨ 1000000 < cost then (((0, 0, 0), 4), lv)
  else (((admitS l lv ((bucketA cls org ten).1, org, ten) cost.toNat).1, 0), (admitS l lv ((bucketA cls org ten).1, org, ten) cost.toNat).2)

set_option maxRecDepth 100000 in
set_option maxHeartbeats 2000000 in
theorem admit_good (l : List (Sl.Subj × Sl.Lim)) (sb tb mb n lb tm : Nat) (lv : Lv) (cls org ten : List UInt8) (cost : Nat) (R : Nat × Nat × Nat) (LV : Lv) (w : World) (h : IsSl w sb tb mb n l lb tm lv)
    (hg : (bucketA cls org ten).2 = true) (hne : ten ≠ []) (h0 : 1 ≤ cost) (h1 : cost ≤ 1000000) (hR : admitS l lv ((bucketA cls org ten).1, org, ten) cost = (R, LV)) :
    Calls Tryz.prog 29 #[.pointer (some ⟨sb, 0, none⟩), .agg #[.string ⟨cls.toArray⟩, .string ⟨org.toArray⟩, .string ⟨ten.toArray⟩, .int .i64 cost]] w fun e w' => e = .returned (.tuple #[.agg #[.int .i64 R.1, .int .i64 R.2.1, .int .i64 R.2.2], .int .i64 0]) ∧ IsSl w' sb tb mb n l lb tm LV ∧ Only (fun k => k = sb ∨ k = lb) w w' := by
  have hrb := fun w => readKey_any cls org ten w
  obtain ⟨hc2, ho, ht⟩ := bucketA_ok hg
  have hka := keyA_of hg
  rw [hg, hka] at hrb
  have hokv := admitS_ok (l := l) (k := ((bucketA cls org ten).1, org, ten)) (cost := cost) h.core.ok h.table.ok h.okp ⟨hc2, ho, ht⟩ hne h0 h.core.few
  rw [hR] at hokv
  generalize (bucketA cls org ten).1 = c at *
  have hsb := h.lt
  have HH := hide h; have HR := hide hR; have HOK := hide hokv
  have HRB := hide hrb
  unfold keyV at HRB
  have hten : ten.isEmpty = false := by cases ten <;> simp at hne ⊢
  have q1 : ¬ (cost : Int) < 1 := by omega
  have q2 : ¬ (1000000 : Int) < (cost : Int) := by omega
  clear hrb hka hokv hR h
  go_enter_defers Tryz.func29, Tryz.ntmps29
  go_wp2_with fail
  refine (unhide HRB _).mono ?_
  rintro e w1 ⟨rfl, hb⟩
  obtain ⟨r2, r3, hA, hb0, hz1⟩ := req_kept cls org ten cost w w1 hb
  obtain ⟨X, hX⟩ : ∃ X, X = w1.alloc (.cells #[.int .i64 c, .string ⟨org.toArray⟩, .string ⟨ten.toArray⟩] 118) := ⟨_, rfl⟩
  have hb1X : Below w1.heap.size w1 X := by rw [hX]; exact Below.alloc1 w1 _
  have hbX : Below w.heap.size w X := hb0.trans (hb1X.mono hb0.size)
  have hIX := (unhide HH).below hbX
  obtain ⟨_, c1, _, _, fz⟩ := hIX.core.at_.cells
  have hlock := hide (lock_free ⟨sb, 1, none⟩ X c1 (fz 1))
  have hI := hIX.lock
  have hK : Three X w1.heap.size (.int .i64 c) (.string ⟨org.toArray⟩) (.string ⟨ten.toArray⟩) := by rw [hX]; exact Three.made w1 _ _ _ _
  have hAX := hA.keep hb1X hA.2.2.2.2.2.2
  have r3X := (hb1X.cell (p := ⟨w.heap.size, 3, none⟩) (by show w.heap.size < _; omega)).trans r3
  have hXz : X.heap.size = w1.heap.size + 1 := by rw [hX]; simp
  obtain ⟨W, hW⟩ : ∃ W, W = X.setCell ⟨sb, 1, none⟩ (.int .i32 1) := ⟨_, rfl⟩
  have hgW : X.grownBy W (some sb) := by rw [hW]; exact grown_set X sb 1 _
  rw [← hW] at hI
  have far : ∀ b o, b ≠ sb → b < X.heap.size → W.cell? ⟨b, o, none⟩ = X.cell? ⟨b, o, none⟩ := fun b o hb hz => World.cell?_of_block (a := ⟨b, o, none⟩) (hgW.block b hz (by simpa using hb))
  have hWz : W.heap.size = X.heap.size := by rw [hW]; simp
  have s3 := (far w.heap.size 3 (by omega) (by omega)).trans r3X
  have k0 := (far w1.heap.size 0 (by omega) (by omega)).trans hK.1
  have k1 := (far w1.heap.size 1 (by omega) (by omega)).trans hK.2.1
  have k2 := (far w1.heap.size 2 (by omega) (by omega)).trans hK.2.2.1
  have hAW : Three W (w.heap.size + 1) (.int .i64 0) (.int .i64 0) (.int .i64 0) := by
    refine ⟨(far _ 0 (by omega) (by omega)).trans hAX.1, (far _ 1 (by omega) (by omega)).trans hAX.2.1, (far _ 2 (by omega) (by omega)).trans hAX.2.2.1, ?_, ?_, ?_, by omega⟩ <;> rw [hW] <;> simp [hAX.2.2.2.1, hAX.2.2.2.2.1, hAX.2.2.2.2.2.1]
  have hId := hI.drew
  have hlb := hI.lev.lt
  obtain ⟨_, d1, _, d4, gz⟩ := hI.at_.cells
  have hld := hide (load_any sb tb W.drew hId.at_.cells.1 hId.table.shape)
  have hadm := hide (levAdmit_any l tb mb n lb lv c org ten cost W.drew R LV (unhide HR) hId.table hId.lev hId.ok (Nat.le_trans hId.few (by omega)) ⟨hc2, ho, ht⟩ hne h0 h1 hId.okp)
  have HW := hide hW; have HX := hide hX; have HI := hide hId; have HBX := hide hbX; have HGW := hide hgW; have HAW := hide hAW
  have hlb1 : ¬ lb = w.heap.size ∧ ¬ lb = w.heap.size + 1 ∧ ¬ lb = w1.heap.size := by have := (unhide HH).core.lev.lt; omega
  obtain ⟨n1, n2, n3⟩ := hlb1
  have n7 : w.heap.size < w1.heap.size := by omega
  have n4 : ¬ w.heap.size + 1 = sb := by omega
  have n5 : ¬ w.heap.size + 1 = w1.heap.size := by omega
  have n6 : ¬ sb = lb := hI.ne
  clear hb hb0 hb1X hbX hIX hI hId hK hAX r3X far hA hX hW hgW c1 fz
  go_wp2_with fail
  rw [← unhide HX]
  refine (unhide hlock).mono ?_
  rintro e w2 ⟨rfl, rfl⟩
  rw [← unhide HW]
  go_wp2_with fail
  go_region_held3 (fun w' => w'.cell? ⟨sb, 4, none⟩ = some (.map (some lb)) ∧ w'.cell? ⟨w.heap.size, 3, none⟩ = some (.int .i64 cost) ∧ w'.cell? ⟨w1.heap.size, 0, none⟩ = some (.int .i64 c) ∧ w'.cell? ⟨w1.heap.size, 1, none⟩ = some (.string ⟨org.toArray⟩) ∧ w'.cell? ⟨w1.heap.size, 2, none⟩ = some (.string ⟨ten.toArray⟩)) (go_keep)
    (first
      | (go_at_call 43; refine (unhide hld).mono ?_; rintro e w3 ⟨rfl, rfl⟩)
      | (go_at_call 51; refine (unhide hadm).mono ?_; rintro e w4 ⟨rfl, ho4, hg4⟩; have e4 : ∀ b o, b ≠ lb → b < W.heap.size → w4.cell? ⟨b, o, none⟩ = W.cell? ⟨b, o, none⟩ := (fun b o hb hz => World.cell?_of_block (a := ⟨b, o, none⟩) (w := W.drew) (hg4.block b hz (by simpa using hb))); have t4 := (e4 sb 4 n6 (by omega)).trans d4; have t3 := (e4 w.heap.size 3 (fun e => n1 e.symm) (by omega)).trans s3; have u0 := (e4 w1.heap.size 0 (fun e => n3 e.symm) (by omega)).trans k0; have u1 := (e4 w1.heap.size 1 (fun e => n3 e.symm) (by omega)).trans k1; have u2 := (e4 w1.heap.size 2 (fun e => n3 e.symm) (by omega)).trans k2; have v0 := (e4 (w.heap.size + 1) 0 (fun e => n2 e.symm) (by omega)).trans (unhide HAW).1; have v1 := (e4 (w.heap.size + 1) 1 (fun e => n2 e.symm) (by omega)).trans (unhide HAW).2.1; have v2 := (e4 (w.heap.size + 1) 2 (fun e => n2 e.symm) (by omega)).trans (unhide HAW).2.2.1; have ez : ∀ o, w4.frozen? ⟨w.heap.size + 1, o, none⟩ = W.frozen? ⟨w.heap.size + 1, o, none⟩ := (fun o => World.frozen?_of_block (a := ⟨w.heap.size + 1, o, none⟩) (w := W.drew) (hg4.block (w.heap.size + 1) (unhide HAW).2.2.2.2.2.2 (by simpa using fun e => n2 e.symm))); have vz0 := (ez 0).trans (unhide HAW).2.2.2.1; have vz1 := (ez 1).trans (unhide HAW).2.2.2.2.1; have vz2 := (ez 2).trans (unhide HAW).2.2.2.2.2.1; have vn : w.heap.size + 1 < w4.heap.size := Nat.lt_of_lt_of_le (unhide HAW).2.2.2.2.2.2 hg4.size; have HO4 := hide ho4; have HG4 := hide hg4; clear ho4 hg4 e4 ez))
  have hfx : ¬ footS sb tb mb lb (w.heap.size + 1) := by
    rintro (e | e | e | e)
    · exact n4 e
    · have := (unhide HH).table.lt; omega
    · have := (unhide HH).table.own.lt; omega
    · exact n2 e.symm
  have hg3 : w4.grownBy (((w4.setCell ⟨w.heap.size + 1, 0, none⟩ (.int .i64 R.1)).setCell ⟨w.heap.size + 1, 1, none⟩ (.int .i64 R.2.1)).setCell ⟨w.heap.size + 1, 2, none⟩ (.int .i64 R.2.2)) (some (w.heap.size + 1)) := ((grown_set _ _ 0 _).trans (grown_set _ _ 1 _)).trans (grown_set _ _ 2 _)
  have hI5 := ((unhide HI).charged (unhide HG4) (unhide HO4) (unhide HOK)).other hg3 hfx
  obtain ⟨_, y1, _, _, yz⟩ := hI5.at_.cells
  have HI5 := hide hI5; have HG3 := hide hg3
  clear hI5 hg3 t4 t3 u0 u1 u2
  go_wp2
  refine leaves_cons (f := 50) (args := #[.pointer (some ⟨sb, 1, none⟩)]) (by simp) (by simp [go_sem]) ?_
  refine (unlock_deferred ⟨sb, 1, none⟩ .returning _ y1 (yz 1)).mono ?_
  rintro e u' w6 ⟨rfl, rfl, rfl⟩
  refine ⟨.tuple #[.agg #[.int .i64 R.1, .int .i64 R.2.1, .int .i64 R.2.2], .int .i64 0], by simp [results, Tryz.results29, go_sem, v0, v1, v2], rfl, (unhide HI5).unlock, ?_⟩
  have o1 : Only (fun k => k = sb ∨ k = lb) w X := Only.below (unhide HBX)
  have o2 : Only (fun k => k = sb ∨ k = lb) X W := Only.grown (unhide HGW) (fun k e _ => by cases e; exact .inl rfl)
  have o3 : Only (fun k => k = sb ∨ k = lb) W w4 := ((Only.below (S := fun k => k = sb ∨ k = lb) (Below.refl W.heap.size W).drew)).trans (Only.grown (S := fun k => k = sb ∨ k = lb) (unhide HG4) (fun k e _ => by cases e; exact .inr rfl)) (fun _ _ h => h)
  have o4 : Only (fun k => k = sb ∨ k = lb) w w4 := (o1.trans o2 (fun _ _ h => h)).trans o3 (fun _ _ h => h)
  have o5 := o4.trans (Only.grown (S := fun k => k = w.heap.size + 1) (unhide HG3) (fun k e _ => by cases e; rfl)) (fun k hk e => by omega)
  exact o5.trans (Only.grown (S := fun k => k = sb ∨ k = lb) (grown_set _ sb 1 _) (fun k e _ => by cases e; exact .inl rfl)) (fun _ _ h => h)

end Go.Proofs.YthmhfilkgggagaaGreatDoor

namespace Go.Proofs.YthmhfilkgggagaaGreatDoor
open Go.RowKit Go.Maps Go.Sort

theorem went_same {s : St} {w w' : World} {x : Nat} (h : s.At w') (hg : w.grownBy w' (some x)) (hx : s.foot x) : Went s s w w' :=
  ⟨h, Only.grown hg (fun k e _ => by cases e; exact hx), fun _ hk => .inl hk, rfl⟩

theorem st_now (s : St) (w : World) (h : s.At w) : Calls Tryz.prog 30 #[.pointer (some ⟨s.sb, 0, none⟩)] w fun e w' => e = .returned (.int .i64 (s.tm : Nat)) ∧ Went s s w w' :=
  (now_any s.l s.sb s.tb s.mb s.n s.lb s.tm s.lv w h).mono fun _ _ ⟨e, h1, h2⟩ => ⟨e, went_same h1 h2 (.inl rfl)⟩

theorem st_sweep (s : St) (w : World) (h : s.At w) : Calls Tryz.prog 33 #[.pointer (some ⟨s.sb, 0, none⟩)] w fun e w' => e = .returned (.int .i64 (s.lv.length : Nat)) ∧ Went s s w w' :=
  (sweep_any s.l s.sb s.tb s.mb s.n s.lb s.tm s.lv w h).mono fun _ _ ⟨e, h1, h2⟩ => ⟨e, went_same h1 h2 (.inl rfl)⟩

theorem st_level (s : St) (cls org ten : List UInt8) (w : World) (h : s.At w) : Calls Tryz.prog 28 #[.pointer (some ⟨s.sb, 0, none⟩), .string ⟨cls.toArray⟩, .string ⟨org.toArray⟩, .string ⟨ten.toArray⟩] w fun e w' => e = .returned (.tuple #[.int .i64 (levelA s.lv cls org ten).1, .int .i64 (levelA s.lv cls org ten).2]) ∧ Went s s w w' :=
  (level_any s.l s.sb s.tb s.mb s.n s.lb s.tm s.lv cls org ten w h).mono fun _ _ ⟨e, h1, h2⟩ => ⟨e, went_same h1 h2 (.inl rfl)⟩

theorem st_limits (s : St) (w : World) (h : s.At w) (hE : Env w) : Calls Tryz.prog 19 #[.pointer (some ⟨s.sb, 0, none⟩)] w fun e w' => e = .returned (.string ⟨(textOf s.l).toArray⟩) ∧ Went s s w w' :=
  (limits_any s.l s.sb s.tb s.mb s.n s.lb s.tm s.lv w h hE).mono fun _ _ ⟨e, h1, h2⟩ => ⟨e, went_same h1 h2 (.inr (.inl rfl))⟩

theorem st_limit (s : St) (cls org ten : List UInt8) (w : World) (h : s.At w) : Calls Tryz.prog 22 #[.pointer (some ⟨s.sb, 0, none⟩), .string ⟨cls.toArray⟩, .string ⟨org.toArray⟩, .string ⟨ten.toArray⟩] w fun e w' => e = .returned (.tuple #[limV (limitA s.l cls org ten).1, .int .i64 (limitA s.l cls org ten).2]) ∧ Went s s w w' :=
  (limit_any s.l s.sb s.tb s.mb s.n s.lb s.tm s.lv cls org ten w h).mono fun _ _ ⟨e, h1⟩ => ⟨e, Went.of_below h h1⟩

/-- What Tick answers. -/
def tickA (tm : Nat) (d : Int) : Nat := if d < 0 ∨ 1000000000000 < (tm : Int) + d then 4 else 0

theorem st_tick (s : St) (d : Int) (w : World) (h : s.At w) : Calls Tryz.prog 31 #[.pointer (some ⟨s.sb, 0, none⟩), .int .i64 d] w fun e w' => e = .returned (.int .i64 (tickA s.tm d : Nat)) ∧
    ∃ t, Went s t w w' ∧ t.l = s.l ∧ t.tm = (if tickA s.tm d = 0 then s.tm + d.toNat else s.tm) ∧ t.lv = (if tickA s.tm d = 0 then fallV s.l d.toNat s.lv else s.lv) := by
  unfold tickA
  by_cases hd : d < 0 ∨ 1000000000000 < (s.tm : Int) + d
  · rw [if_pos hd]
    exact (tick_bad s.l s.sb s.tb s.mb s.n s.lb s.tm s.lv d w h hd).mono fun _ _ ⟨e, h1, h2⟩ => ⟨e, s, went_same h1 h2 (.inl rfl), rfl, rfl, rfl⟩
  · rw [if_neg hd]
    obtain ⟨k, rfl⟩ : ∃ k : Nat, d = k := ⟨d.toNat, by omega⟩
    refine (tick_good s.l s.sb s.tb s.mb s.n s.lb s.tm s.lv k w h (by omega)).mono fun _ _ ⟨e, lb', h1, h2, h3⟩ => ⟨e, { s with lb := lb', tm := s.tm + k, lv := fallV s.l k s.lv }, ⟨h1, Only.grown h2 (fun x e _ => by cases e; exact .inl rfl), fun x hx => ?_, rfl⟩, rfl, rfl, rfl⟩
    rcases hx with hx | hx | hx | hx
    · exact .inl (.inl hx)
    · exact .inl (.inr (.inl hx))
    · exact .inl (.inr (.inr (.inl hx)))
    · exact .inr (by have : x = lb' := hx; omega)

theorem st_reload (s : St) (t : List UInt8) (w : World) (h : s.At w) (hE : Env w) : Calls Tryz.prog 26 #[.pointer (some ⟨s.sb, 0, none⟩), .string ⟨t.toArray⟩] w fun e w' => e = .returned (.tuple #[.int .i64 (readS t).2.1, .int .i64 (readS t).2.2]) ∧
    ∃ u, Went s u w w' ∧ u.l = (readS t).1.getD s.l ∧ u.tm = s.tm ∧ u.lv = s.lv := by
  have hc : SlCore w s.sb (.pointer (some ⟨s.tb, 0, none⟩)) s.lb s.tm s.lv := IsSl.core h
  refine (reload_any t s.sb _ s.lb s.tm s.lv w hc hE).mono fun _ _ ⟨e, h1⟩ => ⟨e, ?_⟩
  cases hr : (readS t).1 with
  | none =>
    rw [hr] at h1
    exact ⟨s, Went.of_below h h1.1, rfl, rfl, rfl⟩
  | some l =>
    rw [hr] at h1
    obtain ⟨h2, _, _, tb, mb, n, h3, h4, h5⟩ := h1
    refine ⟨{ s with tb := tb, mb := mb, n := n, l := l }, ⟨h3, Only.grown h2 (fun x e _ => by cases e; exact .inl rfl), fun x hx => ?_, rfl⟩, rfl, rfl, rfl⟩
    rcases hx with hx | hx | hx | hx
    · exact .inl (.inl hx)
    · exact .inr (by have : x = tb := hx; omega)
    · exact .inr (by have : x = mb := hx; omega)
    · exact .inl (.inr (.inr (.inr hx)))

abbrev ansV (R : Nat × Nat × Nat) : Value := .agg #[.int .i64 R.1, .int .i64 R.2.1, .int .i64 R.2.2]

theorem st_admit (s : St) (cls org ten : List UInt8) (cost : Int) (w : World) (h : s.At w) : Calls Tryz.prog 29 #[.pointer (some ⟨s.sb, 0, none⟩), reqV cls org ten cost] w fun e w' => e = .returned (.tuple #[ansV (admA s.l s.lv cls org ten cost).1.1, .int .i64 (admA s.l s.lv cls org ten cost).1.2]) ∧
    ∃ t, Went s t w w' ∧ t.l = s.l ∧ t.tm = s.tm ∧ t.lv = (admA s.l s.lv cls org ten cost).2 := by
  unfold admA
  by_cases h1 : (bucketA cls org ten).2 = false ∨ ten = []
  · rw [if_pos h1]
    exact (admit_name s.sb cls org ten cost w h1).mono fun _ _ ⟨e, hb⟩ => ⟨e, s, Went.of_below h hb, rfl, rfl, rfl⟩
  · rw [if_neg h1]
    have hg : (bucketA cls org ten).2 = true := by
      cases hb : (bucketA cls org ten).2 with
      | true => rfl
      | false => exact absurd (.inl hb) h1
    have hne : ten ≠ [] := fun e => h1 (.inr e)
    by_cases h2 : cost < 1 ∨ 1000000 < cost
    · rw [if_pos h2]
      exact (admit_range s.sb cls org ten cost w hg hne h2).mono fun _ _ ⟨e, hb⟩ => ⟨e, s, Went.of_below h hb, rfl, rfl, rfl⟩
    · rw [if_neg h2]
      obtain ⟨k, rfl⟩ : ∃ k : Nat, cost = k := ⟨cost.toNat, by omega⟩
      refine (admit_good s.l s.sb s.tb s.mb s.n s.lb s.tm s.lv cls org ten k _ _ w h hg hne (by omega) (by omega) rfl).mono fun _ _ ⟨e, h3, h4⟩ => ⟨e, { s with lv := (admitS s.l s.lv ((bucketA cls org ten).1, org, ten) k).2 }, ⟨h3, h4.mono (fun x _ hx => ?_), fun x hx => .inl hx, rfl⟩, rfl, rfl, rfl⟩
      rcases hx with hx | hx
      · exact .inl hx
      · exact .inr (.inr (.inr hx))

end Go.Proofs.YthmhfilkgggagaaGreatDoor

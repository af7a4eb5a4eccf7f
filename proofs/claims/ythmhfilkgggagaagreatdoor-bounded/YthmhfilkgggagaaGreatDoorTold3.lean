/-
  Told: the walk.
-/
import Derived.Test.YthmhfilkgggagaaGreatDoorMade
namespace Go.Proofs.YthmhfilkgggagaaGreatDoor
open Go.RowKit Go.Maps Go.Sort

/-- What holds all along: the environment, the plan's block, and what was there before. -/
structure Tw (w0 : World) (pb : Nat) (cs : List Value) (W : World) : Prop where
  env : Env W
  plan : W.rangeAt pb 0 cs
  lt : pb < W.heap.size
  below : Below w0.heap.size w0 W
  low : 7 ≤ w0.heap.size

theorem Tw.step {w0 : World} {pb : Nat} {cs : List Value} {W W' : World} (h : Tw w0 pb cs W) (hb : Below W.heap.size W W') : Tw w0 pb cs W' :=
  ⟨h.env.below hb (Nat.le_trans h.low h.below.size), Below.range hb h.lt h.plan, Nat.lt_of_lt_of_le h.lt hb.size, h.below.trans (hb.mono h.below.size), h.low⟩

theorem Tw.drew {w0 : World} {pb : Nat} {cs : List Value} {W : World} (h : Tw w0 pb cs W) : Tw w0 pb cs W.drew := h.step (Below.refl _ _).drew
theorem Tw.alloc {w0 : World} {pb : Nat} {cs : List Value} {W : World} (h : Tw w0 pb cs W) (o : Obj) : Tw w0 pb cs (W.alloc o) := h.step (Below.alloc1 W o)

theorem Tw.grown {w0 : World} {pb : Nat} {cs : List Value} {W W' : World} (h : Tw w0 pb cs W) {tb : Nat} (hg : W.grownBy W' (some tb)) (hne : pb ≠ tb) (hlow : w0.heap.size ≤ tb) : Tw w0 pb cs W' :=
  ⟨env_grown h.env hg (Nat.le_trans h.low hlow), grown_range hg h.lt (by simp; exact hne) h.plan, Nat.lt_of_lt_of_le h.lt hg.size, h.below.grown hg h.below.size (fun j hj => by cases hj; exact hlow), h.low⟩

/-- A limit in a block of its own. -/
def limL (l : Sl.Lim) : List Value := [.int .i64 l.rate, .int .i64 l.burst]
structure Lm (W : World) (b : Nat) (l : Sl.Lim) : Prop where
  at_ : W.rangeAt b 0 (limL l)
  lt : b < W.heap.size

theorem IsSl.alloc {w : World} {sb tb mb n : Nat} {l : List (Sl.Subj × Sl.Lim)} {lb tm : Nat} {lv : Lv} (h : IsSl w sb tb mb n l lb tm lv) (o : Obj) : IsSl (w.alloc o) sb tb mb n l lb tm lv := h.below (Below.alloc1 w o)

theorem Lm.made (W : World) (l : Sl.Lim) : Lm (W.alloc (.cells #[.int .i64 l.rate, .int .i64 l.burst] 27)) W.heap.size l :=
  ⟨range_row (MapKept.heap_alloc W _).1, by simp⟩
theorem Lm.step {W W' : World} {b : Nat} {l : Sl.Lim} (h : Lm W b l) (hb : Below W.heap.size W W') : Lm W' b l := ⟨Below.range hb h.lt h.at_, Nat.lt_of_lt_of_le h.lt hb.size⟩
theorem Lm.alloc {W : World} {b : Nat} {l : Sl.Lim} (h : Lm W b l) (o : Obj) : Lm (W.alloc o) b l := h.step (Below.alloc1 W o)
theorem Lm.grown {W W' : World} {b : Nat} {l : Sl.Lim} (h : Lm W b l) {tb : Nat} (hg : W.grownBy W' (some tb)) (hne : b ≠ tb) : Lm W' b l := ⟨grown_range hg h.lt (by simp; exact hne) h.at_, Nat.lt_of_lt_of_le h.lt hg.size⟩

abbrev zero32 : Array Value := #[.int .i64 0, .int .i64 0, .int .i64 0, .int .i64 0, .int .i64 0, .int .i64 0, .int .i64 0, .int .i64 0, .int .i64 0, .int .i64 0, .int .i64 0, .int .i64 0, .int .i64 0, .int .i64 0, .int .i64 0, .int .i64 0, .int .i64 0, .int .i64 0, .int .i64 0, .int .i64 0, .int .i64 0, .int .i64 0, .int .i64 0, .int .i64 0, .int .i64 0, .int .i64 0, .int .i64 0, .int .i64 0, .int .i64 0, .int .i64 0, .int .i64 0, .int .i64 0]

/-- An operation is taken first; where its value goes is told. -/
theorem take_at {P : Program} {ops : Array Oper} {Q : Exit → Act → World → Prop} {md : Region.Mode} {S : World → Prop} {i t : Nat} {oi : Oper} {v : Value} {fuel : Nat} {listed : Array Bool} {a : Act} {w : World} (hi : ops[i]? = some oi) (hd : oi.dst = some t)
    (hs : Region.noSelect ops = true) (hf : Region.free md ops listed i = true) (hr : (Region.ready md ops listed).contains i = true)
    (hQ : ∀ c a w, Q (.panic c) (a.put oi.dst v) w → Q (.panic c) a w) (hy : YieldsIf P ops S oi v a) (hS : S w)
    (h : wpAnyH P md ops Q S fuel (listed.setIfInBounds i true) (a.put (some t) v) w) : wpAnyH P md ops Q S (fuel + 1) listed a w :=
  wpAnyH_take hi hs hf hr hQ hy hS (by rw [hd]; exact h)

theorem lim_size : (Tryz.prog.info? 27).map (·.size) = some 2 := by kernel_rfl

theorem lim_len (l : Sl.Lim) : (Tryz.prog.info? 27).map (·.size) = some (limL l).length := lim_size

theorem count_take (u : List UInt8) (k : Nat) (b : UInt8) (hb : u[k]? = some b) : (u.take (k + 1)).count 10 = (u.take k).count 10 + if b = 10 then 1 else 0 := by
  obtain ⟨hk, rfl⟩ := List.getElem?_eq_some_iff.1 hb
  rw [List.take_succ_eq_append_getElem hk, List.count_append]
  congr 1
  by_cases h : u[k] = 10
  · rw [if_pos h, h]; rfl
  · rw [if_neg h]; simp [h]

/-- The plan is laid into a new block. -/
theorem plan_laid (p : Nat → Sl.Lim) (w1 : World) : ∃ wz, (storeCells ⟨w1.heap.size, 0, none⟩ (pc p).toList).run Tryz.prog (w1.alloc (.cells zero32 32)) = .ok () wz ∧ Below w1.heap.size w1 wz ∧ wz.rangeAt w1.heap.size 0 (pc p).toList ∧ wz.heap.size = w1.heap.size + 1 := by
  have h0 := (MapKept.heap_alloc w1 (.cells zero32 32)).1
  refine ⟨_, store_plan (arr := pc p) h0 rfl (pc_one p), ?_, ?_, ?_⟩
  · refine (Below.alloc1 w1 _).trans ⟨rfl, rfl, rfl, by simp [World.setRow], fun j hj => setRow_other _ _ _ _ (by omega)⟩
  · exact range_row (setRow_heap _ _ _ _ _ _ h0)
  · simp [World.setRow]

/-- The functions of a plan, of its cells as they lie. -/
structure PlanFns (p : Nat → Sl.Lim) (cs : List Value) (T TT TU : ByteArray) : Prop where
  len : cs.length = 32
  sub : ∀ (W : World) (pb c : Nat), c < 2 → W.rangeAt pb 0 cs → W.rangeAt pb (c * 2) (limL (p c))
  canonical : ∀ W, Calls Tryz.prog 18 #[.agg cs.toArray] W fun e w' => e = .returned (.string T) ∧ Below W.heap.size W w'
  made : ∀ W, Env W → Calls Tryz.prog 15 #[.agg cs.toArray] W fun e w' => Below W.heap.size W w' ∧ ∃ sb : Nat, e = .returned (.pointer (some ⟨sb, 0, none⟩))
  limits : ∀ (c o t : Nat) (W : World), c < 2 → o < 2 → t < 2 → Calls Tryz.prog 21 #[.agg cs.toArray, .int .i64 c, .int .i64 o, .int .i64 t] W fun e w' => e = .returned (.tuple #[.agg #[.int .i64 (limTen p c o t).rate, .int .i64 (limTen p c o t).burst], .agg #[.int .i64 (limOrg p c o).rate, .int .i64 (limOrg p c o).burst]]) ∧ Below W.heap.size W w'
  turned : ∀ W, Calls Tryz.prog 17 #[.string T] W fun e w' => e = .returned (.string TT) ∧ w' = W
  made2 : ∀ W, Env W → Calls Tryz.prog 16 #[.string TT] W fun e w' => Below W.heap.size W w' ∧ ∃ sb tb mb n lb, e = .returned (.tuple #[.pointer (some ⟨sb, 0, none⟩), .int .i64 0, .int .i64 0]) ∧ IsSl w' sb tb mb n (entries p).reverse lb 0 [] ∧ W.heap.size ≤ sb ∧ W.heap.size ≤ tb ∧ W.heap.size ≤ mb ∧ W.heap.size ≤ lb
  told : ∀ (sb tb mb n lb : Nat) (W : World), IsSl W sb tb mb n (entries p).reverse lb 0 [] → Env W → Calls Tryz.prog 19 #[.pointer (some ⟨sb, 0, none⟩)] W fun e w' => e = .returned (.string T) ∧ IsSl w' sb tb mb n (entries p).reverse lb 0 [] ∧ W.grownBy w' (some tb)
  twice : ∀ w, (Op.stringOp .add T ⟨#[100, 101, 102, 97, 117, 108, 116, 32, 116, 101, 110, 97, 110, 116, 32, 113, 117, 101, 114, 121, 32, 49, 32, 49, 10]⟩).run Tryz.prog w = .ok (.string TU) w
  again : ∀ (sb tb mb n lb : Nat) (W : World), IsSl W sb tb mb n (entries p).reverse lb 0 [] → Env W → Calls Tryz.prog 26 #[.pointer (some ⟨sb, 0, none⟩), .string TU] W fun e w' => e = .returned (.tuple #[.int .i64 2, .int .i64 ((entries p).length + 1 : Nat)]) ∧ Below W.heap.size W w'
  lim1 : ∀ (sb tb mb n lb c o t : Nat) (W : World), c < 2 → o < 2 → t < 2 → IsSl W sb tb mb n (entries p).reverse lb 0 [] → Calls Tryz.prog 22 #[.pointer (some ⟨sb, 0, none⟩), .string ⟨(Sl.classW c).toArray⟩, .string ⟨(orgW o).toArray⟩, .string ⟨(tenW t).toArray⟩] W fun e w' => e = .returned (.tuple #[.agg #[.int .i64 (limTen p c o t).rate, .int .i64 (limTen p c o t).burst], .int .i64 0]) ∧ Below W.heap.size W w'
  lim2 : ∀ (sb tb mb n lb c o : Nat) (W : World), c < 2 → o < 2 → IsSl W sb tb mb n (entries p).reverse lb 0 [] → Calls Tryz.prog 22 #[.pointer (some ⟨sb, 0, none⟩), .string ⟨(Sl.classW c).toArray⟩, .string ⟨(orgW o).toArray⟩, .string ⟨#[]⟩] W fun e w' => e = .returned (.tuple #[.agg #[.int .i64 (limOrg p c o).rate, .int .i64 (limOrg p c o).burst], .int .i64 0]) ∧ Below W.heap.size W w'
  lim3 : ∀ (sb tb mb n lb c : Nat) (W : World), c < 2 → IsSl W sb tb mb n (entries p).reverse lb 0 [] → Calls Tryz.prog 22 #[.pointer (some ⟨sb, 0, none⟩), .string ⟨(Sl.classW c).toArray⟩, .string ⟨#[111, 116, 104, 101, 114]⟩, .string ⟨#[]⟩] W fun e w' => e = .returned (.tuple #[.agg #[.int .i64 (p c).rate, .int .i64 (p c).burst], .int .i64 0]) ∧ Below W.heap.size W w'
  lim4 : ∀ (sb tb mb n lb c : Nat) (W : World), c < 2 → IsSl W sb tb mb n (entries p).reverse lb 0 [] → Calls Tryz.prog 22 #[.pointer (some ⟨sb, 0, none⟩), .string ⟨(Sl.classW c).toArray⟩, .string ⟨#[79, 116, 104, 101, 114]⟩, .string ⟨#[]⟩] W fun e w' => e = .returned (.tuple #[.agg #[.int .i64 0, .int .i64 0], .int .i64 5]) ∧ Below W.heap.size W w'

theorem plan_fns (p : Nat → Sl.Lim) (hp : OkP 2 p) : PlanFns p (pc p).toList ⟨(upD p 2).toArray⟩ ⟨(turnT (lns p)).toArray⟩ ⟨(upD p 2 ++ twiceW).toArray⟩ := by
  refine ⟨rfl, ?_, ?_, ?_, ?_, ?_, ?_, ?_, ?_, ?_, ?_, ?_, ?_, ?_⟩
  · intro W pb c hc h j v hv
    obtain ⟨h1, h2⟩ := pc_at p c (c * 2) (by omega) (by omega)
    match j, hv with
    | 0, hv =>
      simp [limL] at hv; subst hv
      have := h (c * 2) _ (by simpa using h1)
      simpa using this
    | 1, hv =>
      simp [limL] at hv; subst hv
      have := h (c * 2 + 1) _ (by simpa using h2)
      simpa using this
    | j + 2, hv => simp [limL] at hv
  · exact fun W => canonical_any p W hp.small
  · intro W hE
    refine (made_any p W hp hE).mono ?_
    rintro e w' ⟨hb, sb, tb, mb, n, lb, rfl, -⟩
    exact ⟨hb, sb, rfl⟩
  · exact fun c o t W hc ho ht => planLimits_any p c o t W hc ho ht
  · intro W
    have := turned_any (lns p) W (lns_ok hp) (Nat.le_trans (turn_len hp) (by omega)) (Nat.le_trans (plan_len hp) (by omega))
    rw [← plan_flat hp] at this
    exact this
  · intro W hE
    have := new_any (turnT (lns p)) W hE
    rw [read_turned hp] at this
    exact this
  · intro sb tb mb n lb W h hE
    have := limits_any _ sb tb mb n lb 0 [] W h hE
    rw [(holds_rev p).text hp] at this
    exact this
  · intro w
    obtain ⟨s, hs, k⟩ := cat_ex ⟨(upD p 2).toArray⟩ ⟨twiceW.toArray⟩ (upD p 2) twiceW rfl rfl (by have := plan_len hp; rw [← plan_flat hp] at this; simp [twiceW]; omega)
    rw [hs] at k
    exact k w
  · intro sb tb mb n lb W h hE
    have := reload_any (upD p 2 ++ twiceW) sb _ lb 0 [] W h.core hE
    rw [read_twice hp] at this
    refine this.mono ?_
    rintro e w' ⟨rfl, hb, -⟩
    exact ⟨rfl, hb⟩
  · intro sb tb mb n lb c o t W hc ho ht h
    have := limit_any _ sb tb mb n lb 0 [] (Sl.classW c) (orgW o) (tenW t) W h
    rw [(holds_rev p).limTen hp c o t hc ho ht] at this
    exact this
  · intro sb tb mb n lb c o W hc ho h
    have := limit_any _ sb tb mb n lb 0 [] (Sl.classW c) (orgW o) [] W h
    rw [(holds_rev p).limOrg hp c o hc ho] at this
    exact this
  · intro sb tb mb n lb c W hc h
    have := limit_any _ sb tb mb n lb 0 [] (Sl.classW c) otherW [] W h
    rw [(holds_rev p).limOther hp c hc] at this
    exact this
  · intro sb tb mb n lb c W hc h
    have := limit_any (entries p).reverse sb tb mb n lb 0 [] (Sl.classW c) otherU [] W h
    rw [lim_upper _ c hc] at this
    exact this

set_option maxRecDepth 100000 in
set_option maxHeartbeats 40000000 in
theorem told_any (cp : Option Addr) (cn cc : Nat) (ci oi ti : Int) (w : World) (hE : Env w) (hci : -9223372036854775808 ≤ ci ∧ ci ≤ 9223372036854775807) (hoi : -9223372036854775808 ≤ oi ∧ oi ≤ 9223372036854775807) (hti : -9223372036854775808 ≤ ti ∧ ti ≤ 9223372036854775807)
    (hn : cn ≤ 281474976710656) (hcode : 0 < cn → ∃ a, cp = some a ∧ a.block < w.heap.size ∧ ∀ i, i < cn → ∃ x : Int, w.cell? (a.add i) = some (.int .i64 x) ∧ -9223372036854775808 ≤ x ∧ x ≤ 9223372036854775807) :
    Calls Tryz.prog 7 #[.slice cp cn cc, .int .i64 ci, .int .i64 oi, .int .i64 ti] w fun e w' => e = .returned (.bool true) ∧ Below w.heap.size w w' := by
  have hd0 : Dice (w.alloc (.cells #[.slice cp cn cc, .int .i64 0] 36)) w.heap.size w.heap.size := by
    refine ⟨cp, cn, cc, 0, (MapKept.heap_alloc w _).1, Nat.le_refl _, hn, Nat.zero_le _, fun h => ?_⟩
    obtain ⟨a, e, ha, hx⟩ := hcode h
    refine ⟨a, e, ha, fun i hi => ?_⟩
    obtain ⟨x, hc, hr⟩ := hx i hi
    exact ⟨x, by rw [World.cell?_alloc_lt _ _ _ (by rw [addr_block]; exact ha)]; exact hc, hr⟩
  have hpl := hide (planned_any w.heap.size w.heap.size _ hd0)
  have hz := hE.size
  have HE := hide hE
  clear hd0 hcode hE
  go_enter Tryz.func7, Tryz.ntmps7
  go_wp2_with fail
  refine (unhide hpl).mono ?_
  rintro e w1 ⟨hd1, hg1, p, hp, rfl⟩
  have hb1 : Below w.heap.size w w1 := (Below.alloc1 w _).grown hg1 (by simp) (fun j hj => by cases hj; exact Nat.le_refl _)
  obtain ⟨wz, hst, hbz, hrz, hzz⟩ := plan_laid p w1
  have htw : Tw w w1.heap.size (pc p).toList wz := ⟨((unhide HE).below hb1 hz).below hbz (Nat.le_trans hz hb1.size), hrz, by omega, hb1.trans (hbz.mono hb1.size), hz⟩
  have hfn := plan_fns p hp
  have hcnt := plan_count hp
  have hplen : (upD p 2).length ≤ 640 := by have := plan_len hp; rw [← plan_flat hp] at this; exact this
  have hel := ent_len p
  clear hp hd1 hg1 hb1 hbz hrz hpl
  obtain ⟨cs, hcs⟩ : ∃ cs : List Value, pc p = cs.toArray := ⟨(pc p).toList, rfl⟩
  rw [hcs] at hst htw hfn ⊢
  simp only [] at hst htw hfn
  generalize hTe : (⟨(upD p 2).toArray⟩ : ByteArray) = T at *
  generalize (⟨(turnT (lns p)).toArray⟩ : ByteArray) = TT at *
  generalize (⟨(upD p 2 ++ twiceW).toArray⟩ : ByteArray) = TU at *
  have HTW := hide htw; have HF := hide hfn; have HTE := hide hTe; have HCN := hide hcnt; have HPL := hide hplen; have HEL := hide hel
  have hlen : cs.length = 32 := hfn.len
  clear hcs htw hfn hTe hcnt hplen hel
  go_wp2_with (first
    | (refine wpList_load_mid rfl 32 (.tmp 9) rfl w1.heap.size 0 rfl cs _ (unhide HTW).plan Tryz.underlying32 rfl ?_ ?_; (rw [hlen]; exact plan_size)))
  refine ((unhide HF).made wz (unhide HTW).env).mono ?_
  rintro e w2 ⟨hb2, s0, rfl⟩
  have HT2 := hide ((unhide HTW).step hb2)
  clear hb2 HTW hst hzz
  go_wp2_with (first
    | (refine wpList_load_mid rfl 32 (.tmp 9) rfl w1.heap.size 0 rfl cs _ (unhide HT2).plan Tryz.underlying32 rfl ?_ ?_; (rw [hlen]; exact plan_size)))
  refine ((unhide HF).canonical _).mono ?_
  rintro e w3 ⟨rfl, hb3⟩
  have HT3 := hide ((unhide HT2).step hb3)
  clear hb3 HT2
  go_wp2_with fail
  refine ((unhide HF).turned _).mono ?_
  rintro e w4 ⟨rfl, rfl⟩
  go_wp2_with fail
  refine ((unhide HF).made2 _ (unhide HT3).env).mono ?_
  rintro e w5 ⟨hb5, sb, tb, mb, n, lb, rfl, hsl5, hs1, hs2, hs3, hs4⟩
  have HT5 := hide ((unhide HT3).step hb5)
  have hpb5 : w1.heap.size < w4.heap.size := (unhide HT3).lt
  have hw3 : w.heap.size ≤ w4.heap.size := (unhide HT3).below.size
  have HS5 := hide hsl5
  clear hb5 HT3 hsl5
  go_wp2_with fail
  refine ((unhide HF).told sb tb mb n lb _ (unhide HS5) (unhide HT5).env).mono ?_
  rintro e w6 ⟨rfl, hsl6, hg6⟩
  have HT6 := hide ((unhide HT5).grown hg6 (by omega) (by omega))
  have HS6 := hide hsl6
  clear hg6 hsl6 HT5 HS5
  go_wp2_with fail
  refine (pick_any ci 2 _ hci.1 hci.2 (by omega) (by omega)).mono ?_
  rintro e w7 ⟨rfl, c, hc, rfl⟩
  go_wp2_with fail
  refine (pick_any oi 2 _ hoi.1 hoi.2 (by omega) (by omega)).mono ?_
  rintro e w7 ⟨rfl, o, ho, rfl⟩
  go_wp2_with fail
  refine (pick_any ti 2 _ hti.1 hti.2 (by omega) (by omega)).mono ?_
  rintro e w7 ⟨rfl, t, ht, rfl⟩
  go_wp2_with (first
    | (refine wpList_load_mid rfl 32 (.tmp 9) rfl w1.heap.size 0 rfl cs _ (unhide HT6).plan Tryz.underlying32 rfl ?_ ?_; (rw [hlen]; exact plan_size)))
  refine ((unhide HF).limits c o t _ hc ho ht).mono ?_
  rintro e w7 ⟨rfl, hb7⟩
  have HT7 := hide ((unhide HT6).step hb7)
  have HS7 := hide ((unhide HS6).below hb7)
  clear hb7 HT6 HS6
  go_wp2_with (first
    | (go_at_call 23; refine (class_any c _ hc).mono ?_; rintro e wx ⟨rfl, rfl⟩)
    | (go_at_call 24; refine (org_any o _ ho).mono ?_; rintro e wx ⟨rfl, rfl⟩)
    | (go_at_call 25; refine (tenant_any t _ ht).mono ?_; rintro e wx ⟨rfl, rfl⟩))
  have hS7 : sb < w7.heap.size ∧ tb < w7.heap.size ∧ w.heap.size ≤ w7.heap.size ∧ w1.heap.size < w7.heap.size := ⟨(unhide HS7).lt, (unhide HS7).table.lt, (unhide HT7).below.size, (unhide HT7).lt⟩
  refine ((unhide HF).lim1 sb tb mb n lb c o t _ hc ho ht (((unhide HS7).alloc _).alloc _)).mono ?_
  rintro e w8 ⟨rfl, hb8⟩
  have HT8 := hide ((((unhide HT7).alloc _).alloc _).step hb8)
  have HS8 := hide ((((unhide HS7).alloc _).alloc _).below hb8)
  have La8 := hide (((Lm.made w7 (limTen p c o t)).alloc _).step hb8)
  have Lb8 := hide ((Lm.made (w7.alloc (.cells #[.int .i64 (limTen p c o t).rate, .int .i64 (limTen p c o t).burst] 27)) (limOrg p c o)).step hb8)
  have hz8 : w7.heap.size + 2 ≤ w8.heap.size := by have := hb8.size; simpa using this
  rw [World.size_alloc] at Lb8
  clear hb8 HT7 HS7
  go_wp2_with (first
    | (go_at_call 23; refine (class_any c _ hc).mono ?_; rintro e wx ⟨rfl, rfl⟩)
    | (go_at_call 24; refine (org_any o _ ho).mono ?_; rintro e wx ⟨rfl, rfl⟩))
  refine ((unhide HF).lim2 sb tb mb n lb c o _ hc ho ((unhide HS8).alloc _)).mono ?_
  rintro e w9 ⟨rfl, hb9⟩
  have HT9 := hide (((unhide HT8).alloc _).step hb9)
  have HS9 := hide (((unhide HS8).alloc _).below hb9)
  have La9 := hide (((unhide La8).alloc _).step hb9)
  have Lb9 := hide (((unhide Lb8).alloc _).step hb9)
  have Lc9 := hide ((Lm.made w8 (limTen p c o t)).step hb9)
  have hz9 : w8.heap.size + 1 ≤ w9.heap.size := by have := hb9.size; simpa using this
  clear hb9 HT8 HS8 La8 Lb8
  go_wp2_with (first
    | (go_at_call 23; refine (class_any c _ hc).mono ?_; rintro e wx ⟨rfl, rfl⟩))
  refine ((unhide HF).lim3 sb tb mb n lb c _ hc ((unhide HS9).alloc _)).mono ?_
  rintro e w10 ⟨rfl, hb10⟩
  have HT10 := hide (((unhide HT9).alloc _).step hb10)
  have HS10 := hide (((unhide HS9).alloc _).below hb10)
  have La10 := hide (((unhide La9).alloc _).step hb10)
  have Lb10 := hide (((unhide Lb9).alloc _).step hb10)
  have Lc10 := hide (((unhide Lc9).alloc _).step hb10)
  have Ld10 := hide ((Lm.made w9 (limOrg p c o)).step hb10)
  have hz10 : w9.heap.size + 1 ≤ w10.heap.size := by have := hb10.size; simpa using this
  clear hb10 HT9 HS9 La9 Lb9 Lc9
  go_wp2_with (first
    | (go_at_call 23; refine (class_any c _ hc).mono ?_; rintro e wx ⟨rfl, rfl⟩))
  refine ((unhide HF).lim4 sb tb mb n lb c _ hc ((unhide HS10).alloc _)).mono ?_
  rintro e w11 ⟨rfl, hb11⟩
  have HT11 := hide (((unhide HT10).alloc _).step hb11)
  have HS11 := hide (((unhide HS10).alloc _).below hb11)
  have La11 := hide (((unhide La10).alloc _).step hb11)
  have Lb11 := hide (((unhide Lb10).alloc _).step hb11)
  have Lc11 := hide (((unhide Lc10).alloc _).step hb11)
  have Ld11 := hide (((unhide Ld10).alloc _).step hb11)
  have Le11 := hide ((Lm.made w10 (p c)).step hb11)
  have hz11 : w10.heap.size + 1 ≤ w11.heap.size := by have := hb11.size; simpa using this
  clear hb11 HT10 HS10 La10 Lb10 Lc10 Ld10
  have htwk := (unhide HF).twice
  go_wp2_with (first
    | (refine wpList_load_mid rfl 32 (.tmp 9) rfl w1.heap.size 0 rfl cs _ ((unhide HT11).alloc _).plan Tryz.underlying32 rfl ?_ ?_; (rw [hlen]; exact plan_size)))
  refine ((unhide HF).canonical _).mono ?_
  rintro e w12 ⟨rfl, hb12⟩
  have HT12 := hide (((unhide HT11).alloc _).step hb12)
  have HS12 := hide (((unhide HS11).alloc _).below hb12)
  have La12 := hide (((unhide La11).alloc _).step hb12)
  have Lb12 := hide (((unhide Lb11).alloc _).step hb12)
  have Lc12 := hide (((unhide Lc11).alloc _).step hb12)
  have Ld12 := hide (((unhide Ld11).alloc _).step hb12)
  have Le12 := hide (((unhide Le11).alloc _).step hb12)
  clear hb12 HT11 HS11 La11 Lb11 Lc11 Ld11 Le11
  go_wp2_with fail
  refine ((unhide HF).again sb tb mb n lb _ (unhide HS12) (unhide HT12).env).mono ?_
  rintro e w13 ⟨rfl, hb13⟩
  have HT13 := hide ((unhide HT12).step hb13)
  have HS13 := hide ((unhide HS12).below hb13)
  have La13 := hide ((unhide La12).step hb13)
  have Lb13 := hide ((unhide Lb12).step hb13)
  have Lc13 := hide ((unhide Lc12).step hb13)
  have Ld13 := hide ((unhide Ld12).step hb13)
  have Le13 := hide ((unhide Le12).step hb13)
  clear hb13 HT12 HS12 La12 Lb12 Lc12 Ld12 Le12 htwk
  go_wp2_with fail
  have hTz : T.size = (upD p 2).length := by rw [← unhide HTE]; show (upD p 2).toArray.size = _; simp
  have hTz2 : T.size ≤ 640 := by rw [hTz]; exact unhide HPL
  generalize upD p 2 = u at *
  generalize (entries p).length = N at *
  go_loopw [27, 28] (fun vl vk wr => wr = w13 ∧ ∃ k : Nat, k ≤ u.length ∧ vk = .int .i64 k ∧ vl = .int .i64 ((u.take k).count 10 : Nat)) (fun _ vk _ => u.length - (intOf vk).toNat)
  case atStart => exact ⟨rfl, 0, Nat.zero_le _, rfl, by simp⟩
  case round =>
    obtain ⟨rfl, k, hk, rfl, rfl⟩ := hrel
    have hcl : (u.take k).count 10 ≤ 640 := by
      have h1 := List.count_le_length (a := (10 : UInt8)) (l := u.take k)
      simp at h1; omega
    by_cases hkl : k < u.length
    · obtain ⟨b, hb⟩ : ∃ b, u[k]? = some b := ⟨_, List.getElem?_eq_getElem hkl⟩
      have hib := idx_ex T u (unhide HTE).symm (k : Int) k b rfl hb
      have hct := count_take u k b hb
      by_cases h10 : b = 10
      · have hb1 : ((b.toNat : Int) == 10) = true := by rw [h10]; rfl
        rw [if_pos h10] at hct
        have HCT := hide hct
        generalize (u.take k).count 10 = m at *
        generalize hbt : b.toNat = bt at *
        clear hct hb h10 hbt
        have hki : (k : Int) < (T.size : Int) := by omega
        go_wp2
        go_roundw
        case rel => exact ⟨trivial, k + 1, by omega, by go_num, by rw [unhide HCT]; go_num⟩
        case measure => simp [intOf]; omega
      · have hb1 : ((b.toNat : Int) == 10) = false := by
          rw [beq_eq_false_iff_ne]
          intro e
          exact h10 (UInt8.toNat_inj.1 (by show b.toNat = 10; omega))
        rw [if_neg h10] at hct
        have HCT := hide hct
        generalize (u.take k).count 10 = m at *
        generalize hbt : b.toNat = bt at *
        clear hct hb h10 hbt
        have hki : (k : Int) < (T.size : Int) := by omega
        go_wp2
        go_roundw
        case rel => exact ⟨trivial, k + 1, by omega, by go_num, by rw [unhide HCT]; go_num⟩
        case measure => simp [intOf]; omega
    · have hke : k = u.length := by omega
      have hcN : (u.take k).count 10 = N := by rw [hke, List.take_length]; exact unhide HCN
      rw [hcN]
      have hkn : ¬ (k : Int) < (T.size : Int) := by omega
      clear hcN hcl hke
      go_wp2_with fail
      refine ((unhide HF).told sb tb mb n lb _ (unhide HS13) (unhide HT13).env).mono ?_
      rintro e w14 ⟨rfl, hsl14, hg14⟩
      have HT14 := hide ((unhide HT13).grown hg14 (by omega) (by omega))
      have hsl14c : True := trivial
      have La14 := hide ((unhide La13).grown hg14 (by omega))
      have Lb14 := hide ((unhide Lb13).grown hg14 (by omega))
      have Lc14 := hide ((unhide Lc13).grown hg14 (by omega))
      have Ld14 := hide ((unhide Ld13).grown hg14 (by omega))
      have Le14 := hide ((unhide Le13).grown hg14 (by omega))
      clear hsl14c hsl14 hg14 HT13 HS13 La13 Lb13 Lc13 Ld13 Le13
      have hS14 : Hid ((fun w' => w'.rangeAt w1.heap.size 0 cs ∧ w'.rangeAt w8.heap.size 0 (limL (limTen p c o t)) ∧ w'.rangeAt w7.heap.size 0 (limL (limTen p c o t)) ∧ w'.rangeAt w9.heap.size 0 (limL (limOrg p c o)) ∧ w'.rangeAt (w7.heap.size + 1) 0 (limL (limOrg p c o)) ∧ w'.rangeAt w10.heap.size 0 (limL (p c)) ∧ w'.rangeAt w1.heap.size (c * 2) (limL (p c))) w14.drew) := hide ⟨(unhide HT14).plan, (unhide Lc14).at_, (unhide La14).at_, (unhide Ld14).at_, (unhide Lb14).at_, (unhide Le14).at_, (unhide HF).sub _ _ c hc (unhide HT14).plan⟩
      have hstep : Hid (∀ W, Below w14.heap.size w14.drew W → (fun w' => w'.rangeAt w1.heap.size 0 cs ∧ w'.rangeAt w8.heap.size 0 (limL (limTen p c o t)) ∧ w'.rangeAt w7.heap.size 0 (limL (limTen p c o t)) ∧ w'.rangeAt w9.heap.size 0 (limL (limOrg p c o)) ∧ w'.rangeAt (w7.heap.size + 1) 0 (limL (limOrg p c o)) ∧ w'.rangeAt w10.heap.size 0 (limL (p c)) ∧ w'.rangeAt w1.heap.size (c * 2) (limL (p c))) W) := hide (fun W hb => ⟨Below.range hb (unhide HT14).lt (unhide HT14).plan, Below.range hb (unhide Lc14).lt (unhide Lc14).at_, Below.range hb (unhide La14).lt (unhide La14).at_, Below.range hb (unhide Ld14).lt (unhide Ld14).at_, Below.range hb (unhide Lb14).lt (unhide Lb14).at_, Below.range hb (unhide Le14).lt (unhide Le14).at_, (unhide HF).sub _ _ c hc (Below.range hb (unhide HT14).lt (unhide HT14).plan)⟩)
      have hic : (c : Int) < 2 := by omega
      have hcan14 := hide ((unhide HF).canonical w14.drew)
      have hNb : N ≤ 16 := unhide HEL
      generalize limTen p c o t = lt at *
      generalize limOrg p c o = lo at *
      generalize p c = lp at *
      go_wp2_with fail
      refine wp_region_held_drew (S := fun w' => w'.rangeAt w1.heap.size 0 cs ∧ w'.rangeAt w8.heap.size 0 (limL (lt)) ∧ w'.rangeAt w7.heap.size 0 (limL (lt)) ∧ w'.rangeAt w9.heap.size 0 (limL (lo)) ∧ w'.rangeAt (w7.heap.size + 1) 0 (limL (lo)) ∧ w'.rangeAt w10.heap.size 0 (limL (lp)) ∧ w'.rangeAt w1.heap.size (c * 2) (limL (lp))) (by kernel_rfl) (unhide hS14) (fun hHeld => ?_)
      refine take_at (i := 0) (t := 128) rfl rfl (by kernel_rfl) (by kernel_rfl) (by kernel_rfl) (fun _ _ _ h => h) (Or.inl ⟨by rfl, fun w hSw => by rfl⟩) hHeld ?_
      simp only [Act.put, List.setIfInBounds_toArray, List.set_cons_zero, List.set_cons_succ]
      refine take_at (i := 1) (t := 129) rfl rfl (by kernel_rfl) (by kernel_rfl) (by kernel_rfl) (fun _ _ _ h => h) (yieldsIf_load_mid (by rfl) _ _ rfl _ _ rfl cs _ (fun w h => h.1) Tryz.underlying32 rfl (by rw [hlen]; exact plan_size)) hHeld ?_
      simp only [Act.put, List.setIfInBounds_toArray, List.set_cons_zero, List.set_cons_succ]
      refine wpAnyH_ready (rs := [2]) (by kernel_rfl) (by simp) (AllReadyH.cons rfl (fun K hK => ?_) AllReadyH.nil)
      go_simp
      refine (unhide hcan14).mono ?_
      rintro e w15 ⟨rfl, hb15⟩
      have HB15 := hide hb15
      have hS15 := unhide hstep _ hb15
      clear hb15 hHeld hstep hS14
      refine hK.out _ _ hS15 (fun hHeld => ?_)
      clear hK K hS15
      refine take_at (i := 3) (t := 131) (v := .bool true) rfl rfl (by kernel_rfl) (by kernel_rfl) (by kernel_rfl) (fun _ _ _ h => h) (Or.inl ⟨by rfl, fun w hSw => ?_⟩) hHeld ?_
      · clear hSw; go_simp
      simp only [Act.put, List.setIfInBounds_toArray, List.set_cons_zero, List.set_cons_succ]
      refine take_at (i := 4) (t := 132) rfl rfl (by kernel_rfl) (by kernel_rfl) (by kernel_rfl) (fun _ _ _ h => h) (Or.inl ⟨by rfl, fun w hSw => by rfl⟩) hHeld ?_
      simp only [Act.put, List.setIfInBounds_toArray, List.set_cons_zero, List.set_cons_succ]
      refine take_at (i := 5) (t := 133) rfl rfl (by kernel_rfl) (by kernel_rfl) (by kernel_rfl) (fun _ _ _ h => h) (Or.inl ⟨by rfl, fun w hSw => by rfl⟩) hHeld ?_
      simp only [Act.put, List.setIfInBounds_toArray, List.set_cons_zero, List.set_cons_succ]
      refine take_at (i := 6) (t := 134) rfl rfl (by kernel_rfl) (by kernel_rfl) (by kernel_rfl) (fun _ _ _ h => h) (Or.inl ⟨by rfl, fun w hSw => by rfl⟩) hHeld ?_
      simp only [Act.put, List.setIfInBounds_toArray, List.set_cons_zero, List.set_cons_succ]
      refine take_at (i := 7) (t := 135) (v := .bool true) rfl rfl (by kernel_rfl) (by kernel_rfl) (by kernel_rfl) (fun _ _ _ h => h) (Or.inl ⟨by rfl, fun w hSw => ?_⟩) hHeld ?_
      · clear hSw; go_simp
      simp only [Act.put, List.setIfInBounds_toArray, List.set_cons_zero, List.set_cons_succ]
      refine take_at (i := 8) (t := 136) (v := .bool true) rfl rfl (by kernel_rfl) (by kernel_rfl) (by kernel_rfl) (fun _ _ _ h => h) (Or.inl ⟨by rfl, fun w hSw => ?_⟩) hHeld ?_
      · clear hSw; go_simp
      simp only [Act.put, List.setIfInBounds_toArray, List.set_cons_zero, List.set_cons_succ]
      refine take_at (i := 9) (t := 137) rfl rfl (by kernel_rfl) (by kernel_rfl) (by kernel_rfl) (fun _ _ _ h => h) (Or.inl ⟨by rfl, fun w hSw => by rfl⟩) hHeld ?_
      simp only [Act.put, List.setIfInBounds_toArray, List.set_cons_zero, List.set_cons_succ]
      refine take_at (i := 10) (t := 138) rfl rfl (by kernel_rfl) (by kernel_rfl) (by kernel_rfl) (fun _ _ _ h => h) (yieldsIf_load_mid (by rfl) _ _ rfl _ _ rfl (limL lt) _ (fun w h => h.2.1) Tryz.underlying27 rfl (lim_len lt)) hHeld ?_
      simp only [Act.put, List.setIfInBounds_toArray, List.set_cons_zero, List.set_cons_succ]
      refine take_at (i := 11) (t := 139) rfl rfl (by kernel_rfl) (by kernel_rfl) (by kernel_rfl) (fun _ _ _ h => h) (yieldsIf_load_mid (by rfl) _ _ rfl _ _ rfl (limL lt) _ (fun w h => h.2.2.1) Tryz.underlying27 rfl (lim_len lt)) hHeld ?_
      simp only [Act.put, List.setIfInBounds_toArray, List.set_cons_zero, List.set_cons_succ]
      refine take_at (i := 12) (t := 140) (v := .bool true) rfl rfl (by kernel_rfl) (by kernel_rfl) (by kernel_rfl) (fun _ _ _ h => h) (Or.inl ⟨by rfl, fun w hSw => ?_⟩) hHeld ?_
      · clear hSw; unfold limL; go_simp
      simp only [Act.put, List.setIfInBounds_toArray, List.set_cons_zero, List.set_cons_succ]
      refine take_at (i := 13) (t := 141) (v := .bool true) rfl rfl (by kernel_rfl) (by kernel_rfl) (by kernel_rfl) (fun _ _ _ h => h) (Or.inl ⟨by rfl, fun w hSw => ?_⟩) hHeld ?_
      · clear hSw; go_simp
      simp only [Act.put, List.setIfInBounds_toArray, List.set_cons_zero, List.set_cons_succ]
      refine take_at (i := 14) (t := 142) rfl rfl (by kernel_rfl) (by kernel_rfl) (by kernel_rfl) (fun _ _ _ h => h) (Or.inl ⟨by rfl, fun w hSw => by rfl⟩) hHeld ?_
      simp only [Act.put, List.setIfInBounds_toArray, List.set_cons_zero, List.set_cons_succ]
      refine take_at (i := 15) (t := 143) rfl rfl (by kernel_rfl) (by kernel_rfl) (by kernel_rfl) (fun _ _ _ h => h) (yieldsIf_load_mid (by rfl) _ _ rfl _ _ rfl (limL lo) _ (fun w h => h.2.2.2.1) Tryz.underlying27 rfl (lim_len lo)) hHeld ?_
      simp only [Act.put, List.setIfInBounds_toArray, List.set_cons_zero, List.set_cons_succ]
      refine take_at (i := 16) (t := 144) rfl rfl (by kernel_rfl) (by kernel_rfl) (by kernel_rfl) (fun _ _ _ h => h) (yieldsIf_load_mid (by rfl) _ _ rfl _ _ rfl (limL lo) _ (fun w h => h.2.2.2.2.1) Tryz.underlying27 rfl (lim_len lo)) hHeld ?_
      simp only [Act.put, List.setIfInBounds_toArray, List.set_cons_zero, List.set_cons_succ]
      refine take_at (i := 17) (t := 145) (v := .bool true) rfl rfl (by kernel_rfl) (by kernel_rfl) (by kernel_rfl) (fun _ _ _ h => h) (Or.inl ⟨by rfl, fun w hSw => ?_⟩) hHeld ?_
      · clear hSw; unfold limL; go_simp
      simp only [Act.put, List.setIfInBounds_toArray, List.set_cons_zero, List.set_cons_succ]
      refine take_at (i := 18) (t := 146) (v := .bool true) rfl rfl (by kernel_rfl) (by kernel_rfl) (by kernel_rfl) (fun _ _ _ h => h) (Or.inl ⟨by rfl, fun w hSw => ?_⟩) hHeld ?_
      · clear hSw; go_simp
      simp only [Act.put, List.setIfInBounds_toArray, List.set_cons_zero, List.set_cons_succ]
      refine take_at (i := 19) (t := 147) rfl rfl (by kernel_rfl) (by kernel_rfl) (by kernel_rfl) (fun _ _ _ h => h) (Or.inl ⟨by rfl, fun w hSw => by rfl⟩) hHeld ?_
      simp only [Act.put, List.setIfInBounds_toArray, List.set_cons_zero, List.set_cons_succ]
      refine take_at (i := 20) (t := 148) rfl rfl (by kernel_rfl) (by kernel_rfl) (by kernel_rfl) (fun _ _ _ h => h) (yieldsIf_load_mid (by rfl) _ _ rfl _ _ rfl (limL lp) _ (fun w h => h.2.2.2.2.2.1) Tryz.underlying27 rfl (lim_len lp)) hHeld ?_
      simp only [Act.put, List.setIfInBounds_toArray, List.set_cons_zero, List.set_cons_succ]
      refine take_at (i := 21) (t := 149) rfl rfl (by kernel_rfl) (by kernel_rfl) (by kernel_rfl) (fun _ _ _ h => h) (Or.inl ⟨by rfl, fun w hSw => by rfl⟩) hHeld ?_
      simp only [Act.put, List.setIfInBounds_toArray, List.set_cons_zero, List.set_cons_succ]
      refine take_at (i := 22) (t := 150) (v := .pointer (some ⟨w1.heap.size, 0, none⟩)) rfl rfl (by kernel_rfl) (by kernel_rfl) (by kernel_rfl) (fun _ _ _ h => h) (Or.inl ⟨by rfl, fun w hSw => ?_⟩) hHeld ?_
      · clear hSw; go_simp
      simp only [Act.put, List.setIfInBounds_toArray, List.set_cons_zero, List.set_cons_succ]
      refine take_at (i := 23) (t := 151) (v := .pointer (some ⟨w1.heap.size, c * 2, none⟩)) rfl rfl (by kernel_rfl) (by kernel_rfl) (by kernel_rfl) (fun _ _ _ h => h) (Or.inl ⟨by rfl, fun w hSw => ?_⟩) hHeld ?_
      · clear hSw; go_simp
      simp only [Act.put, List.setIfInBounds_toArray, List.set_cons_zero, List.set_cons_succ]
      refine take_at (i := 24) (t := 152) rfl rfl (by kernel_rfl) (by kernel_rfl) (by kernel_rfl) (fun _ _ _ h => h) (yieldsIf_load_mid (by rfl) _ _ rfl _ _ rfl (limL lp) _ (fun w h => h.2.2.2.2.2.2) Tryz.underlying27 rfl (lim_len lp)) hHeld ?_
      simp only [Act.put, List.setIfInBounds_toArray, List.set_cons_zero, List.set_cons_succ]
      refine take_at (i := 25) (t := 153) (v := .bool true) rfl rfl (by kernel_rfl) (by kernel_rfl) (by kernel_rfl) (fun _ _ _ h => h) (Or.inl ⟨by rfl, fun w hSw => ?_⟩) hHeld ?_
      · clear hSw; unfold limL; go_simp
      simp only [Act.put, List.setIfInBounds_toArray, List.set_cons_zero, List.set_cons_succ]
      refine take_at (i := 26) (t := 154) (v := .bool true) rfl rfl (by kernel_rfl) (by kernel_rfl) (by kernel_rfl) (fun _ _ _ h => h) (Or.inl ⟨by rfl, fun w hSw => ?_⟩) hHeld ?_
      · clear hSw; go_simp
      simp only [Act.put, List.setIfInBounds_toArray, List.set_cons_zero, List.set_cons_succ]
      refine take_at (i := 27) (t := 155) (v := .bool true) rfl rfl (by kernel_rfl) (by kernel_rfl) (by kernel_rfl) (fun _ _ _ h => h) (Or.inl ⟨by rfl, fun w hSw => ?_⟩) hHeld ?_
      · clear hSw; go_simp
      simp only [Act.put, List.setIfInBounds_toArray, List.set_cons_zero, List.set_cons_succ]
      refine take_at (i := 28) (t := 156) (v := .int .i64 0) rfl rfl (by kernel_rfl) (by kernel_rfl) (by kernel_rfl) (fun _ _ _ h => h) (Or.inl ⟨by rfl, fun w hSw => ?_⟩) hHeld ?_
      · clear hSw; go_simp
      simp only [Act.put, List.setIfInBounds_toArray, List.set_cons_zero, List.set_cons_succ]
      refine take_at (i := 29) (t := 157) (v := .bool true) rfl rfl (by kernel_rfl) (by kernel_rfl) (by kernel_rfl) (fun _ _ _ h => h) (Or.inl ⟨by rfl, fun w hSw => ?_⟩) hHeld ?_
      · clear hSw; go_simp
      simp only [Act.put, List.setIfInBounds_toArray, List.set_cons_zero, List.set_cons_succ]
      refine take_at (i := 30) (t := 158) (v := .bool true) rfl rfl (by kernel_rfl) (by kernel_rfl) (by kernel_rfl) (fun _ _ _ h => h) (Or.inl ⟨by rfl, fun w hSw => ?_⟩) hHeld ?_
      · clear hSw; go_simp
      simp only [Act.put, List.setIfInBounds_toArray, List.set_cons_zero, List.set_cons_succ]
      refine take_at (i := 31) (t := 159) (v := .bool true) rfl rfl (by kernel_rfl) (by kernel_rfl) (by kernel_rfl) (fun _ _ _ h => h) (Or.inl ⟨by rfl, fun w hSw => ?_⟩) hHeld ?_
      · clear hSw; go_simp
      simp only [Act.put, List.setIfInBounds_toArray, List.set_cons_zero, List.set_cons_succ]
      refine take_at (i := 32) (t := 160) (v := .int .i64 0) rfl rfl (by kernel_rfl) (by kernel_rfl) (by kernel_rfl) (fun _ _ _ h => h) (Or.inl ⟨by rfl, fun w hSw => ?_⟩) hHeld ?_
      · clear hSw; go_simp
      simp only [Act.put, List.setIfInBounds_toArray, List.set_cons_zero, List.set_cons_succ]
      refine take_at (i := 33) (t := 161) (v := .bool true) rfl rfl (by kernel_rfl) (by kernel_rfl) (by kernel_rfl) (fun _ _ _ h => h) (Or.inl ⟨by rfl, fun w hSw => ?_⟩) hHeld ?_
      · clear hSw; go_simp
      simp only [Act.put, List.setIfInBounds_toArray, List.set_cons_zero, List.set_cons_succ]
      refine take_at (i := 34) (t := 162) (v := .bool true) rfl rfl (by kernel_rfl) (by kernel_rfl) (by kernel_rfl) (fun _ _ _ h => h) (Or.inl ⟨by rfl, fun w hSw => ?_⟩) hHeld ?_
      · clear hSw; go_simp
      simp only [Act.put, List.setIfInBounds_toArray, List.set_cons_zero, List.set_cons_succ]
      refine take_at (i := 35) (t := 163) (v := .bool true) rfl rfl (by kernel_rfl) (by kernel_rfl) (by kernel_rfl) (fun _ _ _ h => h) (Or.inl ⟨by rfl, fun w hSw => ?_⟩) hHeld ?_
      · clear hSw; go_simp
      simp only [Act.put, List.setIfInBounds_toArray, List.set_cons_zero, List.set_cons_succ]
      refine take_at (i := 36) (t := 164) (v := .int .i64 0) rfl rfl (by kernel_rfl) (by kernel_rfl) (by kernel_rfl) (fun _ _ _ h => h) (Or.inl ⟨by rfl, fun w hSw => ?_⟩) hHeld ?_
      · clear hSw; go_simp
      simp only [Act.put, List.setIfInBounds_toArray, List.set_cons_zero, List.set_cons_succ]
      refine take_at (i := 37) (t := 165) (v := .bool true) rfl rfl (by kernel_rfl) (by kernel_rfl) (by kernel_rfl) (fun _ _ _ h => h) (Or.inl ⟨by rfl, fun w hSw => ?_⟩) hHeld ?_
      · clear hSw; go_simp
      simp only [Act.put, List.setIfInBounds_toArray, List.set_cons_zero, List.set_cons_succ]
      refine take_at (i := 38) (t := 166) (v := .bool true) rfl rfl (by kernel_rfl) (by kernel_rfl) (by kernel_rfl) (fun _ _ _ h => h) (Or.inl ⟨by rfl, fun w hSw => ?_⟩) hHeld ?_
      · clear hSw; go_simp
      simp only [Act.put, List.setIfInBounds_toArray, List.set_cons_zero, List.set_cons_succ]
      refine take_at (i := 39) (t := 167) (v := .bool true) rfl rfl (by kernel_rfl) (by kernel_rfl) (by kernel_rfl) (fun _ _ _ h => h) (Or.inl ⟨by rfl, fun w hSw => ?_⟩) hHeld ?_
      · clear hSw; go_simp
      simp only [Act.put, List.setIfInBounds_toArray, List.set_cons_zero, List.set_cons_succ]
      refine take_at (i := 40) (t := 168) (v := .int .i64 5) rfl rfl (by kernel_rfl) (by kernel_rfl) (by kernel_rfl) (fun _ _ _ h => h) (Or.inl ⟨by rfl, fun w hSw => ?_⟩) hHeld ?_
      · clear hSw; go_simp
      simp only [Act.put, List.setIfInBounds_toArray, List.set_cons_zero, List.set_cons_succ]
      refine take_at (i := 41) (t := 169) (v := .bool true) rfl rfl (by kernel_rfl) (by kernel_rfl) (by kernel_rfl) (fun _ _ _ h => h) (Or.inl ⟨by rfl, fun w hSw => ?_⟩) hHeld ?_
      · clear hSw; go_simp
      simp only [Act.put, List.setIfInBounds_toArray, List.set_cons_zero, List.set_cons_succ]
      refine take_at (i := 42) (t := 170) (v := .bool true) rfl rfl (by kernel_rfl) (by kernel_rfl) (by kernel_rfl) (fun _ _ _ h => h) (Or.inl ⟨by rfl, fun w hSw => ?_⟩) hHeld ?_
      · clear hSw; go_simp
      simp only [Act.put, List.setIfInBounds_toArray, List.set_cons_zero, List.set_cons_succ]
      refine take_at (i := 43) (t := 171) (v := .bool true) rfl rfl (by kernel_rfl) (by kernel_rfl) (by kernel_rfl) (fun _ _ _ h => h) (Or.inl ⟨by rfl, fun w hSw => ?_⟩) hHeld ?_
      · clear hSw; go_simp
      simp only [Act.put, List.setIfInBounds_toArray, List.set_cons_zero, List.set_cons_succ]
      refine take_at (i := 44) (t := 172) (v := .int .i64 2) rfl rfl (by kernel_rfl) (by kernel_rfl) (by kernel_rfl) (fun _ _ _ h => h) (Or.inl ⟨by rfl, fun w hSw => ?_⟩) hHeld ?_
      · clear hSw; go_simp
      simp only [Act.put, List.setIfInBounds_toArray, List.set_cons_zero, List.set_cons_succ]
      refine take_at (i := 45) (t := 173) (v := .bool true) rfl rfl (by kernel_rfl) (by kernel_rfl) (by kernel_rfl) (fun _ _ _ h => h) (Or.inl ⟨by rfl, fun w hSw => ?_⟩) hHeld ?_
      · clear hSw; go_simp
      simp only [Act.put, List.setIfInBounds_toArray, List.set_cons_zero, List.set_cons_succ]
      refine take_at (i := 46) (t := 174) (v := .bool true) rfl rfl (by kernel_rfl) (by kernel_rfl) (by kernel_rfl) (fun _ _ _ h => h) (Or.inl ⟨by rfl, fun w hSw => ?_⟩) hHeld ?_
      · clear hSw; go_simp
      simp only [Act.put, List.setIfInBounds_toArray, List.set_cons_zero, List.set_cons_succ]
      refine take_at (i := 47) (t := 175) (v := .bool true) rfl rfl (by kernel_rfl) (by kernel_rfl) (by kernel_rfl) (fun _ _ _ h => h) (Or.inl ⟨by rfl, fun w hSw => ?_⟩) hHeld ?_
      · clear hSw; go_simp
      simp only [Act.put, List.setIfInBounds_toArray, List.set_cons_zero, List.set_cons_succ]
      refine take_at (i := 48) (t := 176) (v := .int .i64 ((N + 1 : Nat) : Int)) rfl rfl (by kernel_rfl) (by kernel_rfl) (by kernel_rfl) (fun _ _ _ h => h) (Or.inl ⟨by rfl, fun w hSw => ?_⟩) hHeld ?_
      · clear hSw; go_simp
      simp only [Act.put, List.setIfInBounds_toArray, List.set_cons_zero, List.set_cons_succ]
      refine take_at (i := 49) (t := 177) (v := .int .i64 N) rfl rfl (by kernel_rfl) (by kernel_rfl) (by kernel_rfl) (fun _ _ _ h => h) (Or.inl ⟨by rfl, fun w hSw => ?_⟩) hHeld ?_
      · clear hSw; go_simp
      simp only [Act.put, List.setIfInBounds_toArray, List.set_cons_zero, List.set_cons_succ]
      refine take_at (i := 50) (t := 178) (v := .int .i64 ((N : Int) + 1)) rfl rfl (by kernel_rfl) (by kernel_rfl) (by kernel_rfl) (fun _ _ _ h => h) (Or.inl ⟨by rfl, fun w hSw => ?_⟩) hHeld ?_
      · clear hSw; go_simp; exact IntWalk.i64_in _ ⟨by omega, by omega⟩
      simp only [Act.put, List.setIfInBounds_toArray, List.set_cons_zero, List.set_cons_succ]
      refine take_at (i := 51) (t := 179) (v := .bool true) rfl rfl (by kernel_rfl) (by kernel_rfl) (by kernel_rfl) (fun _ _ _ h => h) (Or.inl ⟨by rfl, fun w hSw => ?_⟩) hHeld ?_
      · clear hSw; go_simp
      simp only [Act.put, List.setIfInBounds_toArray, List.set_cons_zero, List.set_cons_succ]
      refine take_at (i := 52) (t := 180) (v := .bool true) rfl rfl (by kernel_rfl) (by kernel_rfl) (by kernel_rfl) (fun _ _ _ h => h) (Or.inl ⟨by rfl, fun w hSw => ?_⟩) hHeld ?_
      · clear hSw; go_simp
      simp only [Act.put, List.setIfInBounds_toArray, List.set_cons_zero, List.set_cons_succ]
      refine take_at (i := 53) (t := 8) (v := .bool true) rfl rfl (by kernel_rfl) (by kernel_rfl) (by kernel_rfl) (fun _ _ _ h => h) (Or.inl ⟨by rfl, fun w hSw => ?_⟩) hHeld ?_
      · clear hSw; go_simp
      simp only [Act.put, List.setIfInBounds_toArray, List.set_cons_zero, List.set_cons_succ]
      refine wpAnyH_done (by kernel_rfl) ?_ _
      clear hHeld
      go_wp2
      go_ret
      exact ⟨rfl, (unhide HT14).drew.below.trans ((unhide HB15).mono (unhide HT14).below.size)⟩

end Go.Proofs.YthmhfilkgggagaaGreatDoor

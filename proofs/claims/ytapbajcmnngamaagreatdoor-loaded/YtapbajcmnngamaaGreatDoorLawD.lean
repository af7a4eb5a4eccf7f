/-
  The law's world: Reload, Limits, Limit.
-/
import Derived.Test.YtapbajcmnngamaaGreatDoorLawABC
namespace Go.Proofs.YtapbajcmnngamaaGreatDoor
open Go.RowKit Go.Maps Go.Sort

theorem PairAt.refKept {w w' : World} {p : Pr} (h : PairAt w p) {x : Nat} {t : TypeId} (hg : w.grownBy w' (some x)) (hx : kindAt w x t) (ht : t ≠ 137) (h3 : x ≠ p.rb) : IsRef w' p.rb p.v p.lr :=
  ⟨(hg.block p.rb h.ref.lt (by simpa using fun e => h3 e.symm)).trans h.ref.at_, h.ref.own.kept hg (h.rowNe hx ht), h.ref.ok, h.ref.dflt, h.ref.low⟩

theorem PairAt.slKept {w w' : World} {p : Pr} (h : PairAt w p) {x : Nat} {t : TypeId} (hg : w.grownBy w' (some x)) (hx : kindAt w x t) (h1 : x ≠ p.sb) (h2 : x ≠ p.tb) : IsSl w' p.sb p.tb p.mb p.n p.l :=
  h.sl.blocks hg (by simpa using fun e => h1 e.symm) (by simpa using fun e => h2 e.symm) (by simpa using h.mapNe hx)

theorem Own2.step {W X X' : World} {k m a : Int} {S T U : ByteArray} {lv : Value} {sb rb : Nat} (h : Own2 W k m a S T U lv sb rb X) (hs : W.heap.size + 2 ≤ X.heap.size) {row : Option Nat} (hg : X.grownBy X' row) (hr : ∀ x, row = some x → x < W.heap.size) : Own2 W k m a S T U lv sb rb X' := by
  have e : ∀ b o, b = W.heap.size ∨ b = W.heap.size + 1 → X'.cell? ⟨b, o, none⟩ = X.cell? ⟨b, o, none⟩ := by
    intro b o hb
    refine World.cell?_of_block (hg.block b (by omega) (fun e => ?_))
    have := hr b e.symm
    omega
  exact ⟨(e _ _ (.inl rfl)).trans h.o0, (e _ _ (.inl rfl)).trans h.o3, (e _ _ (.inl rfl)).trans h.o4, (e _ _ (.inl rfl)).trans h.o5, (e _ _ (.inr rfl)).trans h.p0, (e _ _ (.inr rfl)).trans h.p1⟩

theorem reload_arr (S : ByteArray) (t : List UInt8) (hS : S = ⟨t.toArray⟩) (sb : Nat) (v : Value) (w : World) (h : w.heap[sb]? = some (.cells #[v] 73 (0, 0))) (hsb : 6 ≤ sb) (hE : Env w) :
    Calls Tryz.prog 18 #[.pointer (some ⟨sb, 0, none⟩), .string S] w fun e w' =>
      e = .returned (.tuple #[.int .i64 (readS t).2.1, .int .i64 (readS t).2.2]) ∧
      match (readS t).1 with
      | none => Below w.heap.size w w' ∧ (readS t).2.1 ≠ 0
      | some l => w.grownBy w' (some sb) ∧ (readS t).2.1 = 0 ∧ (readS t).2.2 = 0 ∧ ∃ tb mb n, IsSl w' sb tb mb n l ∧ w.heap.size ≤ tb ∧ w.heap.size ≤ mb := by
  subst hS; exact reload_any t sb v w h hsb hE

theorem refReload_arr (S : ByteArray) (t : List UInt8) (hS : S = ⟨t.toArray⟩) (rb : Nat) (v : Value) (l : List (Sl.Subj × Sl.Lim)) (w : World) (h : IsRef w rb v l) :
    Calls Tryz.prog 32 #[.pointer (some ⟨rb, 0, none⟩), .string S] w fun e w' => e = .returned (.tuple #[.int .i64 (readS t).2.1, .int .i64 (readS t).2.2]) ∧ w.grownBy w' (some rb) ∧
      (((readS t).1 = none ∧ Below w.heap.size w w') ∨ ∃ l' v', (readS t).1 = some l' ∧ IsRef w' rb v' l' ∧ ∀ g, v'.ownBlock = some g → w.heap.size ≤ g) := by
  subst hS; exact refReload_any t rb v l w h

set_option maxRecDepth 100000 in
set_option maxHeartbeats 8000000 in
theorem step_reload (w0 : World) (wb : Nat) (v : Value) (ps : List Pr) (m a : Int) (s t u : List UInt8) (lp : Option Addr) (ln lc : Nat) (W : World) (h : LawW w0 wb v ps W) (hn : ps.length ≤ 8796093022207) (hag : Agree ps) (hp : 0 < ps.length) :
    Calls Tryz.prog 20 #[.pointer (some ⟨wb, 0, none⟩), opV 2 m a ⟨s.toArray⟩ ⟨t.toArray⟩ ⟨u.toArray⟩ (.slice lp ln lc)] W fun e w' => e = .returned (.bool true) ∧ ∃ v' ps', LawW w0 wb v' ps' w' ∧ Agree ps' ∧ ps'.length = ps.length := by
  obtain ⟨c0, _, _, f0⟩ := h.cells
  have hlt := h.lt
  obtain ⟨g, cap, N, r, i, P, hv, hgz, hN, hN0, hr1, hr2, hiN, hb1, hb2, p0, p1, hP, hPA, hPm⟩ := h.pick hp m
  subst hv
  have HH := hide h; have HP := hide hP; have HPA := hide hPA
  have HPL : Hid (P.l = P.lr) := hide (hag P hPm)
  have HAG := hide hag
  have hN2 : N ≤ 8796093022207 := by omega
  have hii : (i : Int) < (N : Int) := by omega
  have hNz : ¬ ((N : Int) = 0) := by omega
  have hwr : IntKind.i64.wrap (r + (N : Int)) = r + N := IntWalk.i64_in _ ⟨by omega, by omega⟩
  have hNy : ¬ (N = 0) := by omega
  obtain ⟨S, hS⟩ : ∃ S : ByteArray, S = ⟨s.toArray⟩ := ⟨_, rfl⟩
  obtain ⟨T, hT⟩ : ∃ S : ByteArray, S = ⟨t.toArray⟩ := ⟨_, rfl⟩
  obtain ⟨U, hU⟩ : ∃ S : ByteArray, S = ⟨u.toArray⟩ := ⟨_, rfl⟩
  rw [← hS, ← hT, ← hU]
  have HS := hide hS; have HT := hide hT; have HU := hide hU
  have hl1 := (unhide HPA).sl.at_.cell.2.2
  have hl2 := (unhide HPA).sl.table.lt
  have hl3 := (unhide HPA).ref.lt
  have HRP := hide (fun (X : World) (hx : PairAt X P) (hE : Env X) => reload_arr S s hS P.sb _ X hx.sl.at_ hx.sl.low hE)
  have HRR := hide (fun (X : World) (v : Value) (l : List (Sl.Subj × Sl.Lim)) (hx : IsRef X P.rb v l) => refReload_arr S s hS P.rb v l X hx)
  clear h hN hP hPA hp hn hPm hag hS hT hU
  go_enter Tryz.func20, Tryz.ntmps20
  go_wp2_with fail
  go_region_held3 (fun w' => w'.cell? ⟨wb, 0, none⟩ = some (.slice (some ⟨g, 0, none⟩) N cap) ∧ w'.cell? ⟨W.heap.size, 1, none⟩ = some (.int .i64 m) ∧ w'.cell? ⟨g, i * 2, none⟩ = some (.pointer (some ⟨P.sb, 0, none⟩)) ∧ w'.cell? ⟨g, i * 2 + 1, none⟩ = some (.pointer (some ⟨P.rb, 0, none⟩))) (go_keep) (fail)
  have hbX := (below_two W (.cells #[.int .i64 2, .int .i64 m, .int .i64 a, .string S, .string T, .string U, .slice lp ln lc] 62) (.cells #[.pointer (some ⟨P.sb, 0, none⟩), .pointer (some ⟨P.rb, 0, none⟩)] 100)).drew
  have HL2 := hide ((unhide HH).step hbX)
  have HP2 := hide ((unhide HPA).below hbX)
  have HO2 := hide (Own2.of (W := W) (k := 2) (m := m) (a := a) (S := S) (T := T) (U := U) (lv := .slice lp ln lc) (sb := P.sb) (rb := P.rb) (fun b _ => rfl))
  have hXs : W.heap.size + 2 ≤ (((W.alloc (.cells #[.int .i64 2, .int .i64 m, .int .i64 a, .string S, .string T, .string U, .slice lp ln lc] 62)).alloc (.cells #[.pointer (some ⟨P.sb, 0, none⟩), .pointer (some ⟨P.rb, 0, none⟩)] 100)).drew).heap.size := by simp
  generalize hX : (((W.alloc (.cells #[.int .i64 2, .int .i64 m, .int .i64 a, .string S, .string T, .string U, .slice lp ln lc] 62)).alloc (.cells #[.pointer (some ⟨P.sb, 0, none⟩), .pointer (some ⟨P.rb, 0, none⟩)] 100)).drew) = X at *
  clear c0 f0 p0 p1 hr1 hr2 hwr hii hX hbX
  obtain ⟨o0, o3, o4, o5, d0, d1⟩ := unhide HO2
  go_wp2_with fail
  refine (unhide HRP X (unhide HP2) (unhide HL2).env).mono ?_
  rintro e X1 ⟨rfl, hm1⟩
  obtain ⟨k1, k2, k3⟩ := (unhide HP2).kinds
  have hrbsb : P.rb ≠ P.sb := k3.ne k1 (by decide)
  cases hrs : (readS s).1 with
  | none =>
    rw [hrs] at hm1
    obtain ⟨hb1, _⟩ := hm1
    have HL3 := hide ((unhide HL2).step hb1)
    have HP3 := hide ((unhide HP2).below hb1)
    have hs1 := hb1.size
    have HO3 := hide ((unhide HO2).step hXs (grown_below (row := none) hb1) (fun x e => by cases e))
    have HRS := hide hrs
    clear o0 o3 o4 o5 d0 d1 HL2 HP2 HO2 hb1 hrs k1 k2 k3
    obtain ⟨o0, o3, o4, o5, d0, d1⟩ := unhide HO3
    go_wp2_with fail
    refine (unhide HRR X1 P.v P.lr (unhide HP3).ref).mono ?_
    rintro e X2 ⟨rfl, hg2, hm2⟩
    rcases hm2 with ⟨_, hb2⟩ | ⟨l', v', h1, _⟩
    · have HL4 := hide ((unhide HL3).step hb2)
      clear hg2 hb2 o0 o3 o4 o5 d0 d1
      go_wp2
      go_ret
      exact ⟨rfl, _, ps, unhide HL4, unhide HAG, rfl⟩
    · rw [unhide HRS] at h1; cases h1
  | some l' =>
    rw [hrs] at hm1
    obtain ⟨hg1, _, _, tb', mb', n', hsl, hz1, hz2⟩ := hm1
    have hq1 : PairAt X1 ⟨P.sb, tb', mb', n', P.rb, P.v, l', P.lr⟩ := ⟨hsl, (unhide HP2).refKept hg1 k1 (by decide) (fun e => hrbsb e.symm)⟩
    have hL3 := (unhide HL2).turned (unhide HP) hg1 k1 (.inl ⟨rfl, rfl⟩) ⟨P.sb, tb', mb', n', P.rb, P.v, l', P.lr⟩ hq1 rfl rfl (.inr hz1)
    have hs1 := hg1.size
    have HO3 := hide ((unhide HO2).step hXs hg1 (fun x e => by cases e; exact hl1))
    have HL3 := hide hL3; have HQ1 := hide hq1; have HRS := hide hrs
    clear o0 o3 o4 o5 d0 d1 HL2 HP2 HO2 hg1 hsl hrs hq1 hL3 k1 k2 k3
    obtain ⟨o0, o3, o4, o5, d0, d1⟩ := unhide HO3
    go_wp2_with fail
    refine (unhide HRR X1 P.v P.lr (unhide HQ1).ref).mono ?_
    rintro e X2 ⟨rfl, hg2, hm2⟩
    rcases hm2 with ⟨h1, _⟩ | ⟨l2, v2, h1, href, _⟩
    · rw [unhide HRS] at h1; cases h1
    · have hll : l2 = l' := by rw [unhide HRS] at h1; cases h1; rfl
      subst hll
      obtain ⟨k1, k2, k3⟩ := (unhide HQ1).kinds
      have hq2 : PairAt X2 ⟨P.sb, tb', mb', n', P.rb, v2, l2, l2⟩ := ⟨(unhide HQ1).slKept hg2 k3 (k3.ne k1 (by decide)) (k3.ne k2 (by decide)), href⟩
      have HL4 := hide ((unhide HL3).turned (set_at (unhide HP) _) hg2 k3 (.inr (.inr ⟨rfl, rfl⟩)) ⟨P.sb, tb', mb', n', P.rb, v2, l2, l2⟩ hq2 rfl rfl (.inl rfl))
      clear hg2 href hq2 h1 o0 o3 o4 o5 d0 d1 k1 k2 k3
      go_wp2
      go_ret
      refine ⟨rfl, _, _, unhide HL4, ?_, by simp⟩
      rw [List.set_set]
      exact agree_set (unhide HAG) i _ rfl

set_option maxRecDepth 100000 in
set_option maxHeartbeats 8000000 in
theorem step_limits (w0 : World) (wb : Nat) (v : Value) (ps : List Pr) (m a : Int) (s t u : List UInt8) (lp : Option Addr) (ln lc : Nat) (W : World) (h : LawW w0 wb v ps W) (hn : ps.length ≤ 8796093022207) (hag : Agree ps) (hp : 0 < ps.length) :
    Calls Tryz.prog 20 #[.pointer (some ⟨wb, 0, none⟩), opV 3 m a ⟨s.toArray⟩ ⟨t.toArray⟩ ⟨u.toArray⟩ (.slice lp ln lc)] W fun e w' => e = .returned (.bool true) ∧ ∃ v' ps', LawW w0 wb v' ps' w' ∧ Agree ps' ∧ ps'.length = ps.length := by
  obtain ⟨c0, _, _, f0⟩ := h.cells
  have hlt := h.lt
  obtain ⟨g, cap, N, r, i, P, hv, hgz, hN, hN0, hr1, hr2, hiN, hb1, hb2, p0, p1, hP, hPA, hPm⟩ := h.pick hp m
  subst hv
  have HH := hide h; have HP := hide hP; have HPA := hide hPA
  have HPL : Hid (P.l = P.lr) := hide (hag P hPm)
  have HAG := hide hag
  have hN2 : N ≤ 8796093022207 := by omega
  have hii : (i : Int) < (N : Int) := by omega
  have hNz : ¬ ((N : Int) = 0) := by omega
  have hwr : IntKind.i64.wrap (r + (N : Int)) = r + N := IntWalk.i64_in _ ⟨by omega, by omega⟩
  have hNy : ¬ (N = 0) := by omega
  obtain ⟨S, hS⟩ : ∃ S : ByteArray, S = ⟨s.toArray⟩ := ⟨_, rfl⟩
  obtain ⟨T, hT⟩ : ∃ S : ByteArray, S = ⟨t.toArray⟩ := ⟨_, rfl⟩
  obtain ⟨U, hU⟩ : ∃ S : ByteArray, S = ⟨u.toArray⟩ := ⟨_, rfl⟩
  rw [← hS, ← hT, ← hU]
  have HS := hide hS; have HT := hide hT; have HU := hide hU
  have hl1 := (unhide HPA).sl.at_.cell.2.2
  have hl2 := (unhide HPA).sl.table.lt
  have hl3 := (unhide HPA).ref.lt
  obtain ⟨Z, hZ⟩ : ∃ Z : ByteArray, Z = ⟨(textOf P.l).toArray⟩ := ⟨_, rfl⟩
  have HM1 : Hid (∀ X, PairAt X P → Env X → Calls Tryz.prog 11 #[.pointer (some ⟨P.sb, 0, none⟩)] X fun e w' => e = .returned (.string Z) ∧ IsSl w' P.sb P.tb P.mb P.n P.l ∧ X.grownBy w' (some P.tb)) := hide (fun X hx hE => by rw [hZ]; exact limits_any P.l P.sb P.tb P.mb P.n X hx.sl hE)
  have HM2 : Hid (∀ X, IsRef X P.rb P.v P.lr → Calls Tryz.prog 33 #[.pointer (some ⟨P.rb, 0, none⟩)] X fun e w' => e = .returned (.string Z) ∧ Below X.heap.size X w') := hide (fun X hx => by rw [hZ, unhide HPL]; exact refLimits_any P.lr P.rb P.v X hx)
  clear hZ
  clear h hN hP hPA hp hn hPm hag hS hT hU
  go_enter Tryz.func20, Tryz.ntmps20
  go_wp2_with fail
  go_region_held3 (fun w' => w'.cell? ⟨wb, 0, none⟩ = some (.slice (some ⟨g, 0, none⟩) N cap) ∧ w'.cell? ⟨W.heap.size, 1, none⟩ = some (.int .i64 m) ∧ w'.cell? ⟨g, i * 2, none⟩ = some (.pointer (some ⟨P.sb, 0, none⟩)) ∧ w'.cell? ⟨g, i * 2 + 1, none⟩ = some (.pointer (some ⟨P.rb, 0, none⟩))) (go_keep) (fail)
  have hbX := (below_two W (.cells #[.int .i64 3, .int .i64 m, .int .i64 a, .string S, .string T, .string U, .slice lp ln lc] 62) (.cells #[.pointer (some ⟨P.sb, 0, none⟩), .pointer (some ⟨P.rb, 0, none⟩)] 100)).drew
  have HL2 := hide ((unhide HH).step hbX)
  have HP2 := hide ((unhide HPA).below hbX)
  have HO2 := hide (Own2.of (W := W) (k := 3) (m := m) (a := a) (S := S) (T := T) (U := U) (lv := .slice lp ln lc) (sb := P.sb) (rb := P.rb) (fun b _ => rfl))
  have hXs : W.heap.size + 2 ≤ (((W.alloc (.cells #[.int .i64 3, .int .i64 m, .int .i64 a, .string S, .string T, .string U, .slice lp ln lc] 62)).alloc (.cells #[.pointer (some ⟨P.sb, 0, none⟩), .pointer (some ⟨P.rb, 0, none⟩)] 100)).drew).heap.size := by simp
  generalize hX : (((W.alloc (.cells #[.int .i64 3, .int .i64 m, .int .i64 a, .string S, .string T, .string U, .slice lp ln lc] 62)).alloc (.cells #[.pointer (some ⟨P.sb, 0, none⟩), .pointer (some ⟨P.rb, 0, none⟩)] 100)).drew) = X at *
  clear c0 f0 p0 p1 hr1 hr2 hwr hii hX hbX
  obtain ⟨o0, o3, o4, o5, d0, d1⟩ := unhide HO2
  go_wp2_with fail
  refine (unhide HM1 X (unhide HP2) (unhide HL2).env).mono ?_
  rintro e X1 ⟨rfl, hsl, hg1⟩
  obtain ⟨k1, k2, k3⟩ := (unhide HP2).kinds
  have hrbtb : P.rb ≠ P.tb := k3.ne k2 (by decide)
  have hq1 : PairAt X1 P := ⟨hsl, (unhide HP2).refKept hg1 k2 (by decide) (fun e => hrbtb e.symm)⟩
  have HL3 := hide ((unhide HL2).turned (unhide HP) hg1 k2 (.inr (.inl ⟨rfl, rfl⟩)) P hq1 rfl rfl (.inl rfl))
  have hs1 := hg1.size
  have HO3 := hide ((unhide HO2).step hXs hg1 (fun x e => by cases e; exact hl2))
  have HQ1 := hide hq1
  clear o0 o3 o4 o5 d0 d1 HL2 HP2 HO2 hg1 hsl hq1 k1 k2 k3
  obtain ⟨o0, o3, o4, o5, d0, d1⟩ := unhide HO3
  go_wp2_with fail
  refine (unhide HM2 X1 (unhide HQ1).ref).mono ?_
  rintro e X2 ⟨rfl, hb2⟩
  have HL4 := hide ((unhide HL3).step hb2)
  clear hb2 o0 o3 o4 o5 d0 d1
  go_wp2
  go_ret
  exact ⟨rfl, _, _, unhide HL4, agree_set (unhide HAG) i _ (unhide HPL), by simp⟩

set_option maxRecDepth 100000 in
set_option maxHeartbeats 8000000 in
theorem step_limit (w0 : World) (wb : Nat) (v : Value) (ps : List Pr) (m a : Int) (s t u : List UInt8) (lp : Option Addr) (ln lc : Nat) (W : World) (h : LawW w0 wb v ps W) (hn : ps.length ≤ 8796093022207) (hag : Agree ps) (hp : 0 < ps.length) (ht1 : t.length ≤ 281474976710656) (hu1 : u.length ≤ 281474976710656) :
    Calls Tryz.prog 20 #[.pointer (some ⟨wb, 0, none⟩), opV 4 m a ⟨s.toArray⟩ ⟨t.toArray⟩ ⟨u.toArray⟩ (.slice lp ln lc)] W fun e w' => e = .returned (.bool true) ∧ ∃ v' ps', LawW w0 wb v' ps' w' ∧ Agree ps' ∧ ps'.length = ps.length := by
  obtain ⟨c0, _, _, f0⟩ := h.cells
  have hlt := h.lt
  obtain ⟨g, cap, N, r, i, P, hv, hgz, hN, hN0, hr1, hr2, hiN, hb1, hb2, p0, p1, hP, hPA, hPm⟩ := h.pick hp m
  subst hv
  have HH := hide h; have HP := hide hP; have HPA := hide hPA
  have HPL : Hid (P.l = P.lr) := hide (hag P hPm)
  have HAG := hide hag
  have hN2 : N ≤ 8796093022207 := by omega
  have hii : (i : Int) < (N : Int) := by omega
  have hNz : ¬ ((N : Int) = 0) := by omega
  have hwr : IntKind.i64.wrap (r + (N : Int)) = r + N := IntWalk.i64_in _ ⟨by omega, by omega⟩
  have hNy : ¬ (N = 0) := by omega
  obtain ⟨S, hS⟩ : ∃ S : ByteArray, S = ⟨s.toArray⟩ := ⟨_, rfl⟩
  obtain ⟨T, hT⟩ : ∃ S : ByteArray, S = ⟨t.toArray⟩ := ⟨_, rfl⟩
  obtain ⟨U, hU⟩ : ∃ S : ByteArray, S = ⟨u.toArray⟩ := ⟨_, rfl⟩
  rw [← hS, ← hT, ← hU]
  have HS := hide hS; have HT := hide hT; have HU := hide hU
  have hl1 := (unhide HPA).sl.at_.cell.2.2
  have hl2 := (unhide HPA).sl.table.lt
  have hl3 := (unhide HPA).ref.lt
  obtain ⟨M, hM⟩ : ∃ M, M = (limitA P.l s t u).1 := ⟨_, rfl⟩
  obtain ⟨E, hE⟩ : ∃ M, M = (limitA P.l s t u).2 := ⟨_, rfl⟩
  have HM1 : Hid (∀ X, PairAt X P → Calls Tryz.prog 14 #[.pointer (some ⟨P.sb, 0, none⟩), .string S, .string T, .string U] X fun e w' => e = .returned (.tuple #[.agg #[.int .i64 M.rate, .int .i64 M.burst], .int .i64 E]) ∧ Below X.heap.size X w') := hide (fun X hx => by rw [hM, hE, hS, hT, hU]; exact limit_any P.l P.sb P.tb P.mb P.n s t u X hx.sl)
  have HM2 : Hid (∀ X, PairAt X P → Calls Tryz.prog 34 #[.pointer (some ⟨P.rb, 0, none⟩), .string S, .string T, .string U] X fun e w' => e = .returned (.tuple #[.agg #[.int .i64 M.rate, .int .i64 M.burst], .int .i64 E]) ∧ Below X.heap.size X w') := hide (fun X hx => by rw [hM, hE, hS, hT, hU, unhide HPL]; exact refLimit_any P.lr P.rb P.v s t u X hx.ref ht1 hu1)
  clear hM hE ht1 hu1
  clear h hN hP hPA hp hn hPm hag hS hT hU
  go_enter Tryz.func20, Tryz.ntmps20
  go_wp2_with fail
  go_region_held3 (fun w' => w'.cell? ⟨wb, 0, none⟩ = some (.slice (some ⟨g, 0, none⟩) N cap) ∧ w'.cell? ⟨W.heap.size, 1, none⟩ = some (.int .i64 m) ∧ w'.cell? ⟨g, i * 2, none⟩ = some (.pointer (some ⟨P.sb, 0, none⟩)) ∧ w'.cell? ⟨g, i * 2 + 1, none⟩ = some (.pointer (some ⟨P.rb, 0, none⟩))) (go_keep) (fail)
  have hbX := (below_two W (.cells #[.int .i64 4, .int .i64 m, .int .i64 a, .string S, .string T, .string U, .slice lp ln lc] 62) (.cells #[.pointer (some ⟨P.sb, 0, none⟩), .pointer (some ⟨P.rb, 0, none⟩)] 100)).drew
  have HL2 := hide ((unhide HH).step hbX)
  have HP2 := hide ((unhide HPA).below hbX)
  have HO2 := hide (Own2.of (W := W) (k := 4) (m := m) (a := a) (S := S) (T := T) (U := U) (lv := .slice lp ln lc) (sb := P.sb) (rb := P.rb) (fun b _ => rfl))
  have hXs : W.heap.size + 2 ≤ (((W.alloc (.cells #[.int .i64 4, .int .i64 m, .int .i64 a, .string S, .string T, .string U, .slice lp ln lc] 62)).alloc (.cells #[.pointer (some ⟨P.sb, 0, none⟩), .pointer (some ⟨P.rb, 0, none⟩)] 100)).drew).heap.size := by simp
  generalize hX : (((W.alloc (.cells #[.int .i64 4, .int .i64 m, .int .i64 a, .string S, .string T, .string U, .slice lp ln lc] 62)).alloc (.cells #[.pointer (some ⟨P.sb, 0, none⟩), .pointer (some ⟨P.rb, 0, none⟩)] 100)).drew) = X at *
  clear c0 f0 p0 p1 hr1 hr2 hwr hii hX hbX
  obtain ⟨o0, o3, o4, o5, d0, d1⟩ := unhide HO2
  go_wp2_with fail
  refine (unhide HM1 X (unhide HP2)).mono ?_
  rintro e X1 ⟨rfl, hb1⟩
  have hs1 := hb1.size
  have HL3 := hide (((unhide HL2).step hb1).step (Below.alloc1 X1 (.cells #[.int .i64 M.rate, .int .i64 M.burst] 27)))
  have HP3 := hide (((unhide HP2).below hb1).below (Below.alloc1 X1 (.cells #[.int .i64 M.rate, .int .i64 M.burst] 27)))
  have HO3 := hide ((unhide HO2).step hXs (grown_below (row := none) hb1) (fun x e => by cases e))
  clear o0 o3 o4 o5 d0 d1 HL2 HP2 HO2 hb1
  obtain ⟨o0, o3, o4, o5, d0, d1⟩ := unhide HO3
  have hz1 : W.heap.size < X1.heap.size := by omega
  have hz2 : W.heap.size + 1 < X1.heap.size := by omega
  go_wp2_with fail
  refine (unhide HM2 _ (unhide HP3)).mono ?_
  rintro e X2 ⟨rfl, hb2⟩
  have HL4 := hide (((unhide HL3).step hb2).step (Below.alloc1 X2 (.cells #[.int .i64 M.rate, .int .i64 M.burst] 27)))
  obtain ⟨r0, r1, _, _, hr9⟩ := Two.keep (Two.made X1 (.int .i64 M.rate) (.int .i64 M.burst) 27) hb2 (by simp)
  clear o0 o3 o4 o5 d0 d1 hb2
  go_wp2
  go_ret
  exact ⟨rfl, _, _, unhide HL4, unhide HAG, rfl⟩


end Go.Proofs.YtapbajcmnngamaaGreatDoor

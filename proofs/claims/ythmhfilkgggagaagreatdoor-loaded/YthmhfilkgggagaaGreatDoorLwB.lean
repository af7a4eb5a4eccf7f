/-
  The law's world: a step of kind 7.
  The law's world: a step of kind 8.
  The law's world: a step of kind 4.
  The law's world: a step of kind 3.
-/
import Derived.Test.YthmhfilkgggagaaGreatDoorLwA
namespace Go.Proofs.YthmhfilkgggagaaGreatDoor
open Go.RowKit Go.Maps Go.Sort

set_option maxRecDepth 100000 in
set_option maxHeartbeats 8000000 in
theorem step_admit (w0 : World) (wb : Nat) (v : Value) (ps : List Pr) (b : Nat) (m a : Int) (s t u : List UInt8) (lp : Option Addr) (ln lc : Nat) (W : World) (h : LawW w0 wb v ps W) (hn : ps.length ≤ 8796093022207) (hb : b ≤ 2932031007400) (hag : AgreeN ps b) (hp : 0 < ps.length) (ht1 : t.length ≤ 281474976710656) (hu1 : u.length ≤ 281474976710656) :
    Calls Tryz.prog 38 #[.pointer (some ⟨wb, 0, none⟩), opV 7 m a ⟨s.toArray⟩ ⟨t.toArray⟩ ⟨u.toArray⟩ (.slice lp ln lc)] W fun e w' => e = .returned (.bool true) ∧ ∃ v' ps', LawW w0 wb v' ps' w' ∧ AgreeN ps' (b + 2) ∧ ps'.length = ps.length := by
  obtain ⟨c0, _, _, f0⟩ := h.cells
  have hlt := h.lt
  obtain ⟨g, cap, N, r, i, P, hv, hgz, hN, hN0, hr1, hr2, hiN, hb1, hb2, p0, p1, hP, hPA, hPm⟩ := h.pick hp m
  subst hv
  have hun := And.intro hb (And.intro ht1 hu1)
  clear hun
  obtain ⟨hPG, hPB⟩ := hag P hPm
  have hN2 : N ≤ 8796093022207 := by omega
  have hii : (i : Int) < (N : Int) := by omega
  have hNz : ¬ ((N : Int) = 0) := by omega
  have hwr : IntKind.i64.wrap (r + (N : Int)) = r + N := IntWalk.i64_in _ ⟨by omega, by omega⟩
  have hNy : ¬ (N = 0) := by omega
  obtain ⟨TA, hA, hB⟩ := two_admit P b hPG hPB hb s t u a ht1 hu1
  generalize (admA P.s.l P.s.lv s t u a).1.2 = e2 at hA hB
  generalize (admA P.s.l P.s.lv s t u a).1.1 = R at hA hB
  obtain ⟨R1, R2, R3⟩ := R
  unfold reqV ansV at hA hB
  simp only [] at hA hB
  have HA := hide hA; have HB := hide hB
  clear hA hB
  have HF := hide (fun k (hk : P.foot k) => hPA.lt hk)
  have HH := hide h; have HP := hide hP; have HPA := hide hPA
  have HAG := hide hag; have HPG := hide hPG
  generalize (⟨s.toArray⟩ : ByteArray) = S at *
  generalize (⟨t.toArray⟩ : ByteArray) = T at *
  generalize (⟨u.toArray⟩ : ByteArray) = U at *
  clear h hN hP hPA hp hn hPm hag ht1 hu1 hPG hPB hb
  go_enter Tryz.func38, Tryz.ntmps38
  go_wp2_with fail
  go_region_held3 (fun w' => w'.cell? ⟨wb, 0, none⟩ = some (.slice (some ⟨g, 0, none⟩) N cap) ∧ w'.cell? ⟨W.heap.size, 1, none⟩ = some (.int .i64 m) ∧ w'.cell? ⟨g, i * 2, none⟩ = some (.pointer (some ⟨P.s.sb, 0, none⟩)) ∧ w'.cell? ⟨g, i * 2 + 1, none⟩ = some (.pointer (some ⟨P.r.rb, 0, none⟩))) (go_keep) (fail)
  have hbX := (below_two W (.cells #[.int .i64 7, .int .i64 m, .int .i64 a, .string S, .string T, .string U, .slice lp ln lc] 87) (.cells #[.pointer (some ⟨P.s.sb, 0, none⟩), .pointer (some ⟨P.r.rb, 0, none⟩)] 136)).drew
  have HL2 := hide ((unhide HH).step hbX)
  have HP2 := hide ((unhide HPA).below hbX)
  have HO2 := hide (Own2.of (W := W) (k := 7) (m := m) (a := a) (S := S) (T := T) (U := U) (lv := .slice lp ln lc) (sb := P.s.sb) (rb := P.r.rb) (fun b _ => rfl))
  have hXs : W.heap.size + 2 ≤ (((W.alloc (.cells #[.int .i64 7, .int .i64 m, .int .i64 a, .string S, .string T, .string U, .slice lp ln lc] 87)).alloc (.cells #[.pointer (some ⟨P.s.sb, 0, none⟩), .pointer (some ⟨P.r.rb, 0, none⟩)] 136)).drew).heap.size := by simp
  generalize hX : (((W.alloc (.cells #[.int .i64 7, .int .i64 m, .int .i64 a, .string S, .string T, .string U, .slice lp ln lc] 87)).alloc (.cells #[.pointer (some ⟨P.s.sb, 0, none⟩), .pointer (some ⟨P.r.rb, 0, none⟩)] 136)).drew) = X at *
  clear c0 f0 p0 p1 hr1 hr2 hwr hii hX hbX
  obtain ⟨o0, o2, o3, o4, o5, d0, d1⟩ := unhide HO2
  have HL2' := hide ((unhide HL2).step (Below.alloc1 X (.cells #[.string S, .string T, .string U, .int .i64 a] 65)))
  have HP2' := hide ((unhide HP2).below (Below.alloc1 X (.cells #[.string S, .string T, .string U, .int .i64 a] 65)))
  have HPF := hide (fun k (hk : P.foot k) => (unhide HP2).lt hk)
  have hy1 : W.heap.size < X.heap.size := by omega
  have hy2 : W.heap.size + 1 < X.heap.size := by omega
  have HO2' := hide ((unhide HO2).only hXs (Only.below (S := fun _ => False) (Below.alloc1 X (.cells #[.string S, .string T, .string U, .int .i64 a] 65))) (fun x hx => hx.elim))
  clear HL2 HP2
  go_wp2_with fail
  refine (unhide HA _ (unhide HP2') (unhide HL2').env).mono ?_
  rintro e X1 ⟨rfl, q, hq, hT⟩
  have hs1 := hq.only.size
  have hqc := fun j => hq.only.cell (b := X.heap.size) (o := j) (by simp) (fun hk => Nat.lt_irrefl _ (unhide HPF _ hk))
  have s0 : X1.cell? ⟨X.heap.size, 0, none⟩ = some (.string S) := (hqc 0).trans (cell_made X #[.string S, .string T, .string U, .int .i64 a] 65 0 _ rfl)
  have s1 : X1.cell? ⟨X.heap.size, 1, none⟩ = some (.string T) := (hqc 1).trans (cell_made X #[.string S, .string T, .string U, .int .i64 a] 65 1 _ rfl)
  have s2 : X1.cell? ⟨X.heap.size, 2, none⟩ = some (.string U) := (hqc 2).trans (cell_made X #[.string S, .string T, .string U, .int .i64 a] 65 2 _ rfl)
  have s3 : X1.cell? ⟨X.heap.size, 3, none⟩ = some (.int .i64 a) := (hqc 3).trans (cell_made X #[.string S, .string T, .string U, .int .i64 a] 65 3 _ rfl)
  have HL3 := hide (((unhide HL2').went (unhide HP) hq).step (Below.alloc1 X1 (.cells #[.int .i64 R1, .int .i64 R2, .int .i64 R3] 61)))
  have HQ := hide (hq.at_.below (Below.alloc1 X1 (.cells #[.int .i64 R1, .int .i64 R2, .int .i64 R3] 61)))
  have HQL := hide (fun k (hk : q.foot k) => hq.at_.lt hk)
  have HO3 := hide ((unhide HO2').only (by simp; omega) hq.only (fun x hx => .inl (unhide HF x hx)))
  have HT := hide hT
  have hz0 : X.heap.size < X1.heap.size := Nat.lt_of_lt_of_le (by simp) hs1
  clear o0 o2 o3 o4 o5 d0 d1 hq hT HL2' HP2' HO2 HO2' hqc hs1
  obtain ⟨o0, o2, o3, o4, o5, d0, d1⟩ := unhide HO3
  have hz1 : W.heap.size < X1.heap.size := by omega
  have hz2 : W.heap.size + 1 < X1.heap.size := by omega
  go_wp2_with fail
  refine (unhide HB _ q (unhide HT) (unhide HQ)).mono ?_
  rintro e X2 ⟨rfl, q', hq', hG⟩
  have HL4 := hide (((unhide HL3).went (set_at (unhide HP) q) hq').step (Below.alloc1 X2 (.cells #[.int .i64 R1, .int .i64 R2, .int .i64 R3] 61)))
  have HG := hide (AgreeN.two (by omega) (unhide HAG) i q q' hG)
  have hk := fun j => hq'.only.cell (b := X1.heap.size) (o := j) (by simp) (fun hk => Nat.lt_irrefl _ (unhide HQL _ hk))
  have hz3 : X1.heap.size < X2.heap.size := Nat.lt_of_lt_of_le (by simp) hq'.only.size
  have r0 : X2.cell? ⟨X1.heap.size, 0, none⟩ = some (.int .i64 R1) := (hk 0).trans (cell_made X1 #[.int .i64 R1, .int .i64 R2, .int .i64 R3] 61 0 _ rfl)
  have r1 : X2.cell? ⟨X1.heap.size, 1, none⟩ = some (.int .i64 R2) := (hk 1).trans (cell_made X1 #[.int .i64 R1, .int .i64 R2, .int .i64 R3] 61 1 _ rfl)
  have r2 : X2.cell? ⟨X1.heap.size, 2, none⟩ = some (.int .i64 R3) := (hk 2).trans (cell_made X1 #[.int .i64 R1, .int .i64 R2, .int .i64 R3] 61 2 _ rfl)
  clear hq' hG hk o0 o2 o3 o4 o5 d0 d1 HO3 HL3 HQ HT HQL
  go_wp2
  go_ret
  exact ⟨rfl, _, _, unhide HL4, unhide HG⟩

end Go.Proofs.YthmhfilkgggagaaGreatDoor

namespace Go.Proofs.YthmhfilkgggagaaGreatDoor
open Go.RowKit Go.Maps Go.Sort

set_option maxRecDepth 100000 in
set_option maxHeartbeats 8000000 in
theorem step_level (w0 : World) (wb : Nat) (v : Value) (ps : List Pr) (b : Nat) (m a : Int) (s t u : List UInt8) (lp : Option Addr) (ln lc : Nat) (W : World) (h : LawW w0 wb v ps W) (hn : ps.length ≤ 8796093022207) (hb : b ≤ 2932031007400) (hag : AgreeN ps b) (hp : 0 < ps.length) (ht1 : t.length ≤ 281474976710656) (hu1 : u.length ≤ 281474976710656) :
    Calls Tryz.prog 38 #[.pointer (some ⟨wb, 0, none⟩), opV 8 m a ⟨s.toArray⟩ ⟨t.toArray⟩ ⟨u.toArray⟩ (.slice lp ln lc)] W fun e w' => e = .returned (.bool true) ∧ ∃ v' ps', LawW w0 wb v' ps' w' ∧ AgreeN ps' (b + 2) ∧ ps'.length = ps.length := by
  obtain ⟨c0, _, _, f0⟩ := h.cells
  have hlt := h.lt
  obtain ⟨g, cap, N, r, i, P, hv, hgz, hN, hN0, hr1, hr2, hiN, hb1, hb2, p0, p1, hP, hPA, hPm⟩ := h.pick hp m
  subst hv
  have hun := And.intro hb (And.intro ht1 hu1)
  clear hun
  obtain ⟨hPG, hPB⟩ := hag P hPm
  have hN2 : N ≤ 8796093022207 := by omega
  have hii : (i : Int) < (N : Int) := by omega
  have hNz : ¬ ((N : Int) = 0) := by omega
  have hwr : IntKind.i64.wrap (r + (N : Int)) = r + N := IntWalk.i64_in _ ⟨by omega, by omega⟩
  have hNy : ¬ (N = 0) := by omega
  obtain ⟨TA, hA, hB⟩ := two_level P b hPG hPB hb s t u ht1 hu1
  generalize (levelA P.s.lv s t u).1 = e1 at hA hB
  generalize (levelA P.s.lv s t u).2 = e2 at hA hB
  have HA := hide hA; have HB := hide hB
  clear hA hB
  have HF := hide (fun k (hk : P.foot k) => hPA.lt hk)
  have HH := hide h; have HP := hide hP; have HPA := hide hPA
  have HAG := hide hag; have HPG := hide hPG
  generalize (⟨s.toArray⟩ : ByteArray) = S at *
  generalize (⟨t.toArray⟩ : ByteArray) = T at *
  generalize (⟨u.toArray⟩ : ByteArray) = U at *
  clear h hN hP hPA hp hn hPm hag ht1 hu1 hPG hPB hb
  go_enter Tryz.func38, Tryz.ntmps38
  go_wp2_with fail
  go_region_held3 (fun w' => w'.cell? ⟨wb, 0, none⟩ = some (.slice (some ⟨g, 0, none⟩) N cap) ∧ w'.cell? ⟨W.heap.size, 1, none⟩ = some (.int .i64 m) ∧ w'.cell? ⟨g, i * 2, none⟩ = some (.pointer (some ⟨P.s.sb, 0, none⟩)) ∧ w'.cell? ⟨g, i * 2 + 1, none⟩ = some (.pointer (some ⟨P.r.rb, 0, none⟩))) (go_keep) (fail)
  have hbX := (below_two W (.cells #[.int .i64 8, .int .i64 m, .int .i64 a, .string S, .string T, .string U, .slice lp ln lc] 87) (.cells #[.pointer (some ⟨P.s.sb, 0, none⟩), .pointer (some ⟨P.r.rb, 0, none⟩)] 136)).drew
  have HL2 := hide ((unhide HH).step hbX)
  have HP2 := hide ((unhide HPA).below hbX)
  have HO2 := hide (Own2.of (W := W) (k := 8) (m := m) (a := a) (S := S) (T := T) (U := U) (lv := .slice lp ln lc) (sb := P.s.sb) (rb := P.r.rb) (fun b _ => rfl))
  have hXs : W.heap.size + 2 ≤ (((W.alloc (.cells #[.int .i64 8, .int .i64 m, .int .i64 a, .string S, .string T, .string U, .slice lp ln lc] 87)).alloc (.cells #[.pointer (some ⟨P.s.sb, 0, none⟩), .pointer (some ⟨P.r.rb, 0, none⟩)] 136)).drew).heap.size := by simp
  generalize hX : (((W.alloc (.cells #[.int .i64 8, .int .i64 m, .int .i64 a, .string S, .string T, .string U, .slice lp ln lc] 87)).alloc (.cells #[.pointer (some ⟨P.s.sb, 0, none⟩), .pointer (some ⟨P.r.rb, 0, none⟩)] 136)).drew) = X at *
  clear c0 f0 p0 p1 hr1 hr2 hwr hii hX hbX
  obtain ⟨o0, o2, o3, o4, o5, d0, d1⟩ := unhide HO2
  go_wp2_with fail
  refine (unhide HA X (unhide HP2) (unhide HL2).env).mono ?_
  rintro e X1 ⟨rfl, q, hq, hT⟩
  have hs1 := hq.only.size
  have HL3 := hide ((unhide HL2).went (unhide HP) hq)
  have HQ := hide hq.at_
  have HO3 := hide ((unhide HO2).only hXs hq.only (fun x hx => .inl (unhide HF x hx)))
  have HT := hide hT
  clear o0 o2 o3 o4 o5 d0 d1 hq hT HL2 HP2 HO2
  obtain ⟨o0, o2, o3, o4, o5, d0, d1⟩ := unhide HO3
  go_wp2_with fail
  refine (unhide HB X1 q (unhide HT) (unhide HQ)).mono ?_
  rintro e X2 ⟨rfl, q', hq', hG⟩
  have HL4 := hide ((unhide HL3).went (set_at (unhide HP) q) hq')
  have HG := hide (AgreeN.two (by omega) (unhide HAG) i q q' hG)
  clear hq' hG o0 o2 o3 o4 o5 d0 d1 HO3 HL3 HQ HT
  go_wp2
  go_ret
  exact ⟨rfl, _, _, unhide HL4, unhide HG⟩

end Go.Proofs.YthmhfilkgggagaaGreatDoor

namespace Go.Proofs.YthmhfilkgggagaaGreatDoor
open Go.RowKit Go.Maps Go.Sort

set_option maxRecDepth 100000 in
set_option maxHeartbeats 8000000 in
theorem step_limit (w0 : World) (wb : Nat) (v : Value) (ps : List Pr) (b : Nat) (m a : Int) (s t u : List UInt8) (lp : Option Addr) (ln lc : Nat) (W : World) (h : LawW w0 wb v ps W) (hn : ps.length ≤ 8796093022207) (hb : b ≤ 2932031007400) (hag : AgreeN ps b) (hp : 0 < ps.length) (ht1 : t.length ≤ 281474976710656) (hu1 : u.length ≤ 281474976710656) :
    Calls Tryz.prog 38 #[.pointer (some ⟨wb, 0, none⟩), opV 4 m a ⟨s.toArray⟩ ⟨t.toArray⟩ ⟨u.toArray⟩ (.slice lp ln lc)] W fun e w' => e = .returned (.bool true) ∧ ∃ v' ps', LawW w0 wb v' ps' w' ∧ AgreeN ps' (b + 2) ∧ ps'.length = ps.length := by
  obtain ⟨c0, _, _, f0⟩ := h.cells
  have hlt := h.lt
  obtain ⟨g, cap, N, r, i, P, hv, hgz, hN, hN0, hr1, hr2, hiN, hb1, hb2, p0, p1, hP, hPA, hPm⟩ := h.pick hp m
  subst hv
  have hun := And.intro hb (And.intro ht1 hu1)
  clear hun
  obtain ⟨hPG, hPB⟩ := hag P hPm
  have hN2 : N ≤ 8796093022207 := by omega
  have hii : (i : Int) < (N : Int) := by omega
  have hNz : ¬ ((N : Int) = 0) := by omega
  have hwr : IntKind.i64.wrap (r + (N : Int)) = r + N := IntWalk.i64_in _ ⟨by omega, by omega⟩
  have hNy : ¬ (N = 0) := by omega
  obtain ⟨TA, hA, hB⟩ := two_limit P b hPG hPB s t u ht1 hu1
  generalize (limitA P.s.l s t u).1 = M at hA hB
  generalize (limitA P.s.l s t u).2 = e2 at hA hB
  unfold limV at hA hB
  have HA := hide hA; have HB := hide hB
  clear hA hB
  have HF := hide (fun k (hk : P.foot k) => hPA.lt hk)
  have HH := hide h; have HP := hide hP; have HPA := hide hPA
  have HAG := hide hag; have HPG := hide hPG
  generalize (⟨s.toArray⟩ : ByteArray) = S at *
  generalize (⟨t.toArray⟩ : ByteArray) = T at *
  generalize (⟨u.toArray⟩ : ByteArray) = U at *
  clear h hN hP hPA hp hn hPm hag ht1 hu1 hPG hPB hb
  go_enter Tryz.func38, Tryz.ntmps38
  go_wp2_with fail
  go_region_held3 (fun w' => w'.cell? ⟨wb, 0, none⟩ = some (.slice (some ⟨g, 0, none⟩) N cap) ∧ w'.cell? ⟨W.heap.size, 1, none⟩ = some (.int .i64 m) ∧ w'.cell? ⟨g, i * 2, none⟩ = some (.pointer (some ⟨P.s.sb, 0, none⟩)) ∧ w'.cell? ⟨g, i * 2 + 1, none⟩ = some (.pointer (some ⟨P.r.rb, 0, none⟩))) (go_keep) (fail)
  have hbX := (below_two W (.cells #[.int .i64 4, .int .i64 m, .int .i64 a, .string S, .string T, .string U, .slice lp ln lc] 87) (.cells #[.pointer (some ⟨P.s.sb, 0, none⟩), .pointer (some ⟨P.r.rb, 0, none⟩)] 136)).drew
  have HL2 := hide ((unhide HH).step hbX)
  have HP2 := hide ((unhide HPA).below hbX)
  have HO2 := hide (Own2.of (W := W) (k := 4) (m := m) (a := a) (S := S) (T := T) (U := U) (lv := .slice lp ln lc) (sb := P.s.sb) (rb := P.r.rb) (fun b _ => rfl))
  have hXs : W.heap.size + 2 ≤ (((W.alloc (.cells #[.int .i64 4, .int .i64 m, .int .i64 a, .string S, .string T, .string U, .slice lp ln lc] 87)).alloc (.cells #[.pointer (some ⟨P.s.sb, 0, none⟩), .pointer (some ⟨P.r.rb, 0, none⟩)] 136)).drew).heap.size := by simp
  generalize hX : (((W.alloc (.cells #[.int .i64 4, .int .i64 m, .int .i64 a, .string S, .string T, .string U, .slice lp ln lc] 87)).alloc (.cells #[.pointer (some ⟨P.s.sb, 0, none⟩), .pointer (some ⟨P.r.rb, 0, none⟩)] 136)).drew) = X at *
  clear c0 f0 p0 p1 hr1 hr2 hwr hii hX hbX
  obtain ⟨o0, o2, o3, o4, o5, d0, d1⟩ := unhide HO2
  go_wp2_with fail
  refine (unhide HA X (unhide HP2) (unhide HL2).env).mono ?_
  rintro e X1 ⟨rfl, q, hq, hT⟩
  have hs1 := hq.only.size
  have HL3 := hide (((unhide HL2).went (unhide HP) hq).step (Below.alloc1 X1 (.cells #[.int .i64 M.rate, .int .i64 M.burst] 27)))
  have HQ := hide (hq.at_.below (Below.alloc1 X1 (.cells #[.int .i64 M.rate, .int .i64 M.burst] 27)))
  have HQL := hide (fun k (hk : q.foot k) => hq.at_.lt hk)
  have HO3 := hide ((unhide HO2).only hXs hq.only (fun x hx => .inl (unhide HF x hx)))
  have HT := hide hT
  clear o0 o2 o3 o4 o5 d0 d1 hq hT HL2 HP2 HO2
  obtain ⟨o0, o2, o3, o4, o5, d0, d1⟩ := unhide HO3
  have hz1 : W.heap.size < X1.heap.size := by omega
  have hz2 : W.heap.size + 1 < X1.heap.size := by omega
  go_wp2_with fail
  refine (unhide HB _ q (unhide HT) (unhide HQ)).mono ?_
  rintro e X2 ⟨rfl, q', hq', hG⟩
  have HL4 := hide (((unhide HL3).went (set_at (unhide HP) q) hq').step (Below.alloc1 X2 (.cells #[.int .i64 M.rate, .int .i64 M.burst] 27)))
  have HG := hide (AgreeN.two (by omega) (unhide HAG) i q q' hG)
  have hk := fun j => hq'.only.cell (b := X1.heap.size) (o := j) (by simp) (fun hk => Nat.lt_irrefl _ (unhide HQL _ hk))
  have hz3 : X1.heap.size < X2.heap.size := Nat.lt_of_lt_of_le (by simp) hq'.only.size
  have r0 : X2.cell? ⟨X1.heap.size, 0, none⟩ = some (.int .i64 M.rate) := (hk 0).trans (cell_made X1 #[.int .i64 M.rate, .int .i64 M.burst] 27 0 _ rfl)
  have r1 : X2.cell? ⟨X1.heap.size, 1, none⟩ = some (.int .i64 M.burst) := (hk 1).trans (cell_made X1 #[.int .i64 M.rate, .int .i64 M.burst] 27 1 _ rfl)
  clear hq' hG hk o0 o2 o3 o4 o5 d0 d1 HO3 HL3 HQ HT HQL
  go_wp2
  go_ret
  exact ⟨rfl, _, _, unhide HL4, unhide HG⟩

end Go.Proofs.YthmhfilkgggagaaGreatDoor

namespace Go.Proofs.YthmhfilkgggagaaGreatDoor
open Go.RowKit Go.Maps Go.Sort

set_option maxRecDepth 100000 in
set_option maxHeartbeats 8000000 in
theorem step_limits (w0 : World) (wb : Nat) (v : Value) (ps : List Pr) (b : Nat) (m a : Int) (s t u : List UInt8) (lp : Option Addr) (ln lc : Nat) (W : World) (h : LawW w0 wb v ps W) (hn : ps.length ≤ 8796093022207) (hb : b ≤ 2932031007400) (hag : AgreeN ps b) (hp : 0 < ps.length) (ht1 : t.length ≤ 281474976710656) (hu1 : u.length ≤ 281474976710656) :
    Calls Tryz.prog 38 #[.pointer (some ⟨wb, 0, none⟩), opV 3 m a ⟨s.toArray⟩ ⟨t.toArray⟩ ⟨u.toArray⟩ (.slice lp ln lc)] W fun e w' => e = .returned (.bool true) ∧ ∃ v' ps', LawW w0 wb v' ps' w' ∧ AgreeN ps' b ∧ ps'.length = ps.length := by
  obtain ⟨c0, _, _, f0⟩ := h.cells
  have hlt := h.lt
  obtain ⟨g, cap, N, r, i, P, hv, hgz, hN, hN0, hr1, hr2, hiN, hb1, hb2, p0, p1, hP, hPA, hPm⟩ := h.pick hp m
  subst hv
  have hun := And.intro hb (And.intro ht1 hu1)
  clear hun
  obtain ⟨hPG, hPB⟩ := hag P hPm
  have hN2 : N ≤ 8796093022207 := by omega
  have hii : (i : Int) < (N : Int) := by omega
  have hNz : ¬ ((N : Int) = 0) := by omega
  have hwr : IntKind.i64.wrap (r + (N : Int)) = r + N := IntWalk.i64_in _ ⟨by omega, by omega⟩
  have hNy : ¬ (N = 0) := by omega
  obtain ⟨TA, hA, hB⟩ := two_limits P b hPG hPB
  generalize (⟨(textOf P.s.l).toArray⟩ : ByteArray) = Z at hA hB
  have HA := hide hA; have HB := hide hB
  clear hA hB
  have HF := hide (fun k (hk : P.foot k) => hPA.lt hk)
  have HH := hide h; have HP := hide hP; have HPA := hide hPA
  have HAG := hide hag; have HPG := hide hPG
  generalize (⟨s.toArray⟩ : ByteArray) = S at *
  generalize (⟨t.toArray⟩ : ByteArray) = T at *
  generalize (⟨u.toArray⟩ : ByteArray) = U at *
  clear h hN hP hPA hp hn hPm hag ht1 hu1 hPG hPB hb
  go_enter Tryz.func38, Tryz.ntmps38
  go_wp2_with fail
  go_region_held3 (fun w' => w'.cell? ⟨wb, 0, none⟩ = some (.slice (some ⟨g, 0, none⟩) N cap) ∧ w'.cell? ⟨W.heap.size, 1, none⟩ = some (.int .i64 m) ∧ w'.cell? ⟨g, i * 2, none⟩ = some (.pointer (some ⟨P.s.sb, 0, none⟩)) ∧ w'.cell? ⟨g, i * 2 + 1, none⟩ = some (.pointer (some ⟨P.r.rb, 0, none⟩))) (go_keep) (fail)
  have hbX := (below_two W (.cells #[.int .i64 3, .int .i64 m, .int .i64 a, .string S, .string T, .string U, .slice lp ln lc] 87) (.cells #[.pointer (some ⟨P.s.sb, 0, none⟩), .pointer (some ⟨P.r.rb, 0, none⟩)] 136)).drew
  have HL2 := hide ((unhide HH).step hbX)
  have HP2 := hide ((unhide HPA).below hbX)
  have HO2 := hide (Own2.of (W := W) (k := 3) (m := m) (a := a) (S := S) (T := T) (U := U) (lv := .slice lp ln lc) (sb := P.s.sb) (rb := P.r.rb) (fun b _ => rfl))
  have hXs : W.heap.size + 2 ≤ (((W.alloc (.cells #[.int .i64 3, .int .i64 m, .int .i64 a, .string S, .string T, .string U, .slice lp ln lc] 87)).alloc (.cells #[.pointer (some ⟨P.s.sb, 0, none⟩), .pointer (some ⟨P.r.rb, 0, none⟩)] 136)).drew).heap.size := by simp
  generalize hX : (((W.alloc (.cells #[.int .i64 3, .int .i64 m, .int .i64 a, .string S, .string T, .string U, .slice lp ln lc] 87)).alloc (.cells #[.pointer (some ⟨P.s.sb, 0, none⟩), .pointer (some ⟨P.r.rb, 0, none⟩)] 136)).drew) = X at *
  clear c0 f0 p0 p1 hr1 hr2 hwr hii hX hbX
  obtain ⟨o0, o2, o3, o4, o5, d0, d1⟩ := unhide HO2
  go_wp2_with fail
  refine (unhide HA X (unhide HP2) (unhide HL2).env).mono ?_
  rintro e X1 ⟨rfl, q, hq, hT⟩
  have hs1 := hq.only.size
  have HL3 := hide ((unhide HL2).went (unhide HP) hq)
  have HQ := hide hq.at_
  have HO3 := hide ((unhide HO2).only hXs hq.only (fun x hx => .inl (unhide HF x hx)))
  have HT := hide hT
  clear o0 o2 o3 o4 o5 d0 d1 hq hT HL2 HP2 HO2
  obtain ⟨o0, o2, o3, o4, o5, d0, d1⟩ := unhide HO3
  go_wp2_with fail
  refine (unhide HB X1 q (unhide HT) (unhide HQ)).mono ?_
  rintro e X2 ⟨rfl, q', hq', hG⟩
  have HL4 := hide ((unhide HL3).went (set_at (unhide HP) q) hq')
  have HG := hide (AgreeN.two (by omega) (unhide HAG) i q q' hG)
  clear hq' hG o0 o2 o3 o4 o5 d0 d1 HO3 HL3 HQ HT
  go_wp2
  go_ret
  exact ⟨rfl, _, _, unhide HL4, unhide HG⟩

end Go.Proofs.YthmhfilkgggagaaGreatDoor

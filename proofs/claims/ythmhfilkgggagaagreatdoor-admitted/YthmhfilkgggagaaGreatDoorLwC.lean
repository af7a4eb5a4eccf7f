/-
  The law's world: a step of kind k.
  The law's world: a step of kind 6.
  The law's world: a step of kind 2.
  The law's world: a step of kind 9.
  The law's world: a step of kind 5.
-/
import Derived.Test.YthmhfilkgggagaaGreatDoorLwA
namespace Go.Proofs.YthmhfilkgggagaaGreatDoor
open Go.RowKit Go.Maps Go.Sort

set_option maxRecDepth 100000 in
set_option maxHeartbeats 8000000 in
theorem step_none (w0 : World) (wb : Nat) (v : Value) (ps : List Pr) (b : Nat) (k : Int) (m a : Int) (s t u : List UInt8) (lp : Option Addr) (ln lc : Nat) (W : World) (h : LawW w0 wb v ps W) (hn : ps.length ≤ 8796093022207) (hb : b ≤ 2932031007400) (hag : AgreeN ps b) (hp : 0 < ps.length) (ht1 : t.length ≤ 281474976710656) (hu1 : u.length ≤ 281474976710656) (hk : k < 1) :
    Calls Tryz.prog 38 #[.pointer (some ⟨wb, 0, none⟩), opV k m a ⟨s.toArray⟩ ⟨t.toArray⟩ ⟨u.toArray⟩ (.slice lp ln lc)] W fun e w' => e = .returned (.bool true) ∧ ∃ v' ps', LawW w0 wb v' ps' w' ∧ AgreeN ps' (b + 2) ∧ ps'.length = ps.length := by
  obtain ⟨c0, _, _, f0⟩ := h.cells
  have hlt := h.lt
  obtain ⟨g, cap, N, r, i, P, hv, hgz, hN, hN0, hr1, hr2, hiN, hb1, hb2, p0, p1, hP, hPA, hPm⟩ := h.pick hp m
  subst hv
  have hun := And.intro hb (And.intro ht1 hu1)
  clear hun
  obtain ⟨hPG, hPB⟩ := hag P hPm
  have hN2 : N ≤ 8796093022207 := by omega
  have hii : (i : Int) < (N : Int) := by omega
  have hNz : ¬ ((N : Int) = 0) := by omega
  have hwr : IntKind.i64.wrap (r + (N : Int)) = r + N := IntWalk.i64_in _ ⟨by omega, by omega⟩
  have hNy : ¬ (N = 0) := by omega

  have HF := hide (fun k (hk : P.foot k) => hPA.lt hk)
  have HH := hide h; have HP := hide hP; have HPA := hide hPA
  have HAG := hide hag; have HPG := hide hPG
  generalize (⟨s.toArray⟩ : ByteArray) = S at *
  generalize (⟨t.toArray⟩ : ByteArray) = T at *
  generalize (⟨u.toArray⟩ : ByteArray) = U at *
  clear h hN hP hPA hp hn hPm hag ht1 hu1 hPG hPB hb
  go_enter Tryz.func38, Tryz.ntmps38
  go_wp2_with fail
  go_region_held3 (fun w' => w'.cell? ⟨wb, 0, none⟩ = some (.slice (some ⟨g, 0, none⟩) N cap) ∧ w'.cell? ⟨W.heap.size, 1, none⟩ = some (.int .i64 m) ∧ w'.cell? ⟨g, i * 2, none⟩ = some (.pointer (some ⟨P.s.sb, 0, none⟩)) ∧ w'.cell? ⟨g, i * 2 + 1, none⟩ = some (.pointer (some ⟨P.r.rb, 0, none⟩))) (go_keep) (fail)
  have hbX := (below_two W (.cells #[.int .i64 k, .int .i64 m, .int .i64 a, .string S, .string T, .string U, .slice lp ln lc] 87) (.cells #[.pointer (some ⟨P.s.sb, 0, none⟩), .pointer (some ⟨P.r.rb, 0, none⟩)] 136)).drew
  have HL2 := hide ((unhide HH).step hbX)
  have HP2 := hide ((unhide HPA).below hbX)
  have HO2 := hide (Own2.of (W := W) (k := k) (m := m) (a := a) (S := S) (T := T) (U := U) (lv := .slice lp ln lc) (sb := P.s.sb) (rb := P.r.rb) (fun b _ => rfl))
  have hXs : W.heap.size + 2 ≤ (((W.alloc (.cells #[.int .i64 k, .int .i64 m, .int .i64 a, .string S, .string T, .string U, .slice lp ln lc] 87)).alloc (.cells #[.pointer (some ⟨P.s.sb, 0, none⟩), .pointer (some ⟨P.r.rb, 0, none⟩)] 136)).drew).heap.size := by simp
  generalize hX : (((W.alloc (.cells #[.int .i64 k, .int .i64 m, .int .i64 a, .string S, .string T, .string U, .slice lp ln lc] 87)).alloc (.cells #[.pointer (some ⟨P.s.sb, 0, none⟩), .pointer (some ⟨P.r.rb, 0, none⟩)] 136)).drew) = X at *
  clear c0 f0 p0 p1 hr1 hr2 hwr hii hX hbX
  obtain ⟨o0, o2, o3, o4, o5, d0, d1⟩ := unhide HO2
  go_wp2
  go_ret
  exact ⟨rfl, _, ps, unhide HL2, (unhide HAG).mono (by omega), rfl⟩

end Go.Proofs.YthmhfilkgggagaaGreatDoor

namespace Go.Proofs.YthmhfilkgggagaaGreatDoor
open Go.RowKit Go.Maps Go.Sort

set_option maxRecDepth 100000 in
set_option maxHeartbeats 8000000 in
theorem step_now (w0 : World) (wb : Nat) (v : Value) (ps : List Pr) (b : Nat) (m a : Int) (s t u : List UInt8) (lp : Option Addr) (ln lc : Nat) (W : World) (h : LawW w0 wb v ps W) (hn : ps.length ≤ 8796093022207) (hb : b ≤ 2932031007400) (hag : AgreeN ps b) (hp : 0 < ps.length) (ht1 : t.length ≤ 281474976710656) (hu1 : u.length ≤ 281474976710656) :
    Calls Tryz.prog 38 #[.pointer (some ⟨wb, 0, none⟩), opV 6 m a ⟨s.toArray⟩ ⟨t.toArray⟩ ⟨u.toArray⟩ (.slice lp ln lc)] W fun e w' => e = .returned (.bool true) ∧ ∃ v' ps', LawW w0 wb v' ps' w' ∧ AgreeN ps' (b + 2) ∧ ps'.length = ps.length := by
  obtain ⟨c0, _, _, f0⟩ := h.cells
  have hlt := h.lt
  obtain ⟨g, cap, N, r, i, P, hv, hgz, hN, hN0, hr1, hr2, hiN, hb1, hb2, p0, p1, hP, hPA, hPm⟩ := h.pick hp m
  subst hv
  have hun := And.intro hb (And.intro ht1 hu1)
  clear hun
  obtain ⟨hPG, hPB⟩ := hag P hPm
  have hN2 : N ≤ 8796093022207 := by omega
  have hii : (i : Int) < (N : Int) := by omega
  have hNz : ¬ ((N : Int) = 0) := by omega
  have hwr : IntKind.i64.wrap (r + (N : Int)) = r + N := IntWalk.i64_in _ ⟨by omega, by omega⟩
  have hNy : ¬ (N = 0) := by omega
  have HA := hide (one_now P)
  have htm := hPG.tm

  have HF := hide (fun k (hk : P.foot k) => hPA.lt hk)
  have HH := hide h; have HP := hide hP; have HPA := hide hPA
  have HAG := hide hag; have HPG := hide hPG
  generalize (⟨s.toArray⟩ : ByteArray) = S at *
  generalize (⟨t.toArray⟩ : ByteArray) = T at *
  generalize (⟨u.toArray⟩ : ByteArray) = U at *
  clear h hN hP hPA hp hn hPm hag ht1 hu1 hPG hPB hb
  go_enter Tryz.func38, Tryz.ntmps38
  go_wp2_with fail
  go_region_held3 (fun w' => w'.cell? ⟨wb, 0, none⟩ = some (.slice (some ⟨g, 0, none⟩) N cap) ∧ w'.cell? ⟨W.heap.size, 1, none⟩ = some (.int .i64 m) ∧ w'.cell? ⟨g, i * 2, none⟩ = some (.pointer (some ⟨P.s.sb, 0, none⟩)) ∧ w'.cell? ⟨g, i * 2 + 1, none⟩ = some (.pointer (some ⟨P.r.rb, 0, none⟩))) (go_keep) (fail)
  have hbX := (below_two W (.cells #[.int .i64 6, .int .i64 m, .int .i64 a, .string S, .string T, .string U, .slice lp ln lc] 87) (.cells #[.pointer (some ⟨P.s.sb, 0, none⟩), .pointer (some ⟨P.r.rb, 0, none⟩)] 136)).drew
  have HL2 := hide ((unhide HH).step hbX)
  have HP2 := hide ((unhide HPA).below hbX)
  have HO2 := hide (Own2.of (W := W) (k := 6) (m := m) (a := a) (S := S) (T := T) (U := U) (lv := .slice lp ln lc) (sb := P.s.sb) (rb := P.r.rb) (fun b _ => rfl))
  have hXs : W.heap.size + 2 ≤ (((W.alloc (.cells #[.int .i64 6, .int .i64 m, .int .i64 a, .string S, .string T, .string U, .slice lp ln lc] 87)).alloc (.cells #[.pointer (some ⟨P.s.sb, 0, none⟩), .pointer (some ⟨P.r.rb, 0, none⟩)] 136)).drew).heap.size := by simp
  generalize hX : (((W.alloc (.cells #[.int .i64 6, .int .i64 m, .int .i64 a, .string S, .string T, .string U, .slice lp ln lc] 87)).alloc (.cells #[.pointer (some ⟨P.s.sb, 0, none⟩), .pointer (some ⟨P.r.rb, 0, none⟩)] 136)).drew) = X at *
  clear c0 f0 p0 p1 hr1 hr2 hwr hii hX hbX
  obtain ⟨o0, o2, o3, o4, o5, d0, d1⟩ := unhide HO2
  go_wp2_with fail
  refine (unhide HA X (unhide HP2) (unhide HL2).env).mono ?_
  rintro e X1 ⟨rfl, hq⟩
  have hs1 := hq.only.size
  have HL3 := hide ((unhide HL2).went (unhide HP) hq)
  have r2 := hq.at_.ref.is.cells.2.2.1
  rw [← htm] at r2
  have HO3 := hide ((unhide HO2).only hXs hq.only (fun x hx => .inl (unhide HF x hx)))
  have hrb := hq.at_.ref.is.lt
  generalize P.s.tm = tm at *
  clear o0 o2 o3 o4 o5 d0 d1 hq HL2 HP2 HO2 htm
  obtain ⟨o0, o2, o3, o4, o5, d0, d1⟩ := unhide HO3
  go_wp2
  go_ret
  refine ⟨rfl, _, _, unhide HL3, (unhide HAG).set (by omega) i P ⟨unhide HPG, ?_⟩, by simp⟩
  have := (unhide HAG P (List.mem_of_getElem? (unhide HP))).2
  omega

end Go.Proofs.YthmhfilkgggagaaGreatDoor

namespace Go.Proofs.YthmhfilkgggagaaGreatDoor
open Go.RowKit Go.Maps Go.Sort

set_option maxRecDepth 100000 in
set_option maxHeartbeats 8000000 in
theorem step_reload (w0 : World) (wb : Nat) (v : Value) (ps : List Pr) (b : Nat) (m a : Int) (s t u : List UInt8) (lp : Option Addr) (ln lc : Nat) (W : World) (h : LawW w0 wb v ps W) (hn : ps.length ≤ 8796093022207) (hb : b ≤ 2932031007400) (hag : AgreeN ps b) (hp : 0 < ps.length) (ht1 : t.length ≤ 281474976710656) (hu1 : u.length ≤ 281474976710656) :
    Calls Tryz.prog 38 #[.pointer (some ⟨wb, 0, none⟩), opV 2 m a ⟨s.toArray⟩ ⟨t.toArray⟩ ⟨u.toArray⟩ (.slice lp ln lc)] W fun e w' => e = .returned (.bool true) ∧ ∃ v' ps', LawW w0 wb v' ps' w' ∧ AgreeN ps' (b + 2) ∧ ps'.length = ps.length := by
  obtain ⟨c0, _, _, f0⟩ := h.cells
  have hlt := h.lt
  obtain ⟨g, cap, N, r, i, P, hv, hgz, hN, hN0, hr1, hr2, hiN, hb1, hb2, p0, p1, hP, hPA, hPm⟩ := h.pick hp m
  subst hv
  have hun := And.intro hb (And.intro ht1 hu1)
  clear hun
  obtain ⟨hPG, hPB⟩ := hag P hPm
  have hN2 : N ≤ 8796093022207 := by omega
  have hii : (i : Int) < (N : Int) := by omega
  have hNz : ¬ ((N : Int) = 0) := by omega
  have hwr : IntKind.i64.wrap (r + (N : Int)) = r + N := IntWalk.i64_in _ ⟨by omega, by omega⟩
  have hNy : ¬ (N = 0) := by omega
  obtain ⟨TA, hA, hB⟩ := two_reload P b hPG hPB s
  generalize (readS s).2.1 = e1 at hA hB
  generalize (readS s).2.2 = e2 at hA hB
  have HA := hide hA; have HB := hide hB
  clear hA hB
  have HF := hide (fun k (hk : P.foot k) => hPA.lt hk)
  have HH := hide h; have HP := hide hP; have HPA := hide hPA
  have HAG := hide hag; have HPG := hide hPG
  generalize (⟨s.toArray⟩ : ByteArray) = S at *
  generalize (⟨t.toArray⟩ : ByteArray) = T at *
  generalize (⟨u.toArray⟩ : ByteArray) = U at *
  clear h hN hP hPA hp hn hPm hag ht1 hu1 hPG hPB hb
  go_enter Tryz.func38, Tryz.ntmps38
  go_wp2_with fail
  go_region_held3 (fun w' => w'.cell? ⟨wb, 0, none⟩ = some (.slice (some ⟨g, 0, none⟩) N cap) ∧ w'.cell? ⟨W.heap.size, 1, none⟩ = some (.int .i64 m) ∧ w'.cell? ⟨g, i * 2, none⟩ = some (.pointer (some ⟨P.s.sb, 0, none⟩)) ∧ w'.cell? ⟨g, i * 2 + 1, none⟩ = some (.pointer (some ⟨P.r.rb, 0, none⟩))) (go_keep) (fail)
  have hbX := (below_two W (.cells #[.int .i64 2, .int .i64 m, .int .i64 a, .string S, .string T, .string U, .slice lp ln lc] 87) (.cells #[.pointer (some ⟨P.s.sb, 0, none⟩), .pointer (some ⟨P.r.rb, 0, none⟩)] 136)).drew
  have HL2 := hide ((unhide HH).step hbX)
  have HP2 := hide ((unhide HPA).below hbX)
  have HO2 := hide (Own2.of (W := W) (k := 2) (m := m) (a := a) (S := S) (T := T) (U := U) (lv := .slice lp ln lc) (sb := P.s.sb) (rb := P.r.rb) (fun b _ => rfl))
  have hXs : W.heap.size + 2 ≤ (((W.alloc (.cells #[.int .i64 2, .int .i64 m, .int .i64 a, .string S, .string T, .string U, .slice lp ln lc] 87)).alloc (.cells #[.pointer (some ⟨P.s.sb, 0, none⟩), .pointer (some ⟨P.r.rb, 0, none⟩)] 136)).drew).heap.size := by simp
  generalize hX : (((W.alloc (.cells #[.int .i64 2, .int .i64 m, .int .i64 a, .string S, .string T, .string U, .slice lp ln lc] 87)).alloc (.cells #[.pointer (some ⟨P.s.sb, 0, none⟩), .pointer (some ⟨P.r.rb, 0, none⟩)] 136)).drew) = X at *
  clear c0 f0 p0 p1 hr1 hr2 hwr hii hX hbX
  obtain ⟨o0, o2, o3, o4, o5, d0, d1⟩ := unhide HO2
  go_wp2_with fail
  refine (unhide HA X (unhide HP2) (unhide HL2).env).mono ?_
  rintro e X1 ⟨rfl, q, hq, hT⟩
  have hs1 := hq.only.size
  have HL3 := hide ((unhide HL2).went (unhide HP) hq)
  have HQ := hide hq.at_
  have HO3 := hide ((unhide HO2).only hXs hq.only (fun x hx => .inl (unhide HF x hx)))
  have HT := hide hT
  clear o0 o2 o3 o4 o5 d0 d1 hq hT HL2 HP2 HO2
  obtain ⟨o0, o2, o3, o4, o5, d0, d1⟩ := unhide HO3
  go_wp2_with fail
  refine (unhide HB X1 q (unhide HT) (unhide HQ)).mono ?_
  rintro e X2 ⟨rfl, q', hq', hG⟩
  have HL4 := hide ((unhide HL3).went (set_at (unhide HP) q) hq')
  have HG := hide (AgreeN.two (by omega) (unhide HAG) i q q' hG)
  clear hq' hG o0 o2 o3 o4 o5 d0 d1 HO3 HL3 HQ HT
  go_wp2
  go_ret
  exact ⟨rfl, _, _, unhide HL4, unhide HG⟩

end Go.Proofs.YthmhfilkgggagaaGreatDoor

namespace Go.Proofs.YthmhfilkgggagaaGreatDoor
open Go.RowKit Go.Maps Go.Sort

set_option maxRecDepth 100000 in
set_option maxHeartbeats 8000000 in
theorem step_sweep (w0 : World) (wb : Nat) (v : Value) (ps : List Pr) (b : Nat) (m a : Int) (s t u : List UInt8) (lp : Option Addr) (ln lc : Nat) (W : World) (h : LawW w0 wb v ps W) (hn : ps.length ≤ 8796093022207) (hb : b ≤ 2932031007400) (hag : AgreeN ps b) (hp : 0 < ps.length) (ht1 : t.length ≤ 281474976710656) (hu1 : u.length ≤ 281474976710656) :
    Calls Tryz.prog 38 #[.pointer (some ⟨wb, 0, none⟩), opV 9 m a ⟨s.toArray⟩ ⟨t.toArray⟩ ⟨u.toArray⟩ (.slice lp ln lc)] W fun e w' => e = .returned (.bool true) ∧ ∃ v' ps', LawW w0 wb v' ps' w' ∧ AgreeN ps' (b + 2) ∧ ps'.length = ps.length := by
  obtain ⟨c0, _, _, f0⟩ := h.cells
  have hlt := h.lt
  obtain ⟨g, cap, N, r, i, P, hv, hgz, hN, hN0, hr1, hr2, hiN, hb1, hb2, p0, p1, hP, hPA, hPm⟩ := h.pick hp m
  subst hv
  have hun := And.intro hb (And.intro ht1 hu1)
  clear hun
  obtain ⟨hPG, hPB⟩ := hag P hPm
  have hN2 : N ≤ 8796093022207 := by omega
  have hii : (i : Int) < (N : Int) := by omega
  have hNz : ¬ ((N : Int) = 0) := by omega
  have hwr : IntKind.i64.wrap (r + (N : Int)) = r + N := IntWalk.i64_in _ ⟨by omega, by omega⟩
  have hNy : ¬ (N = 0) := by omega
  obtain ⟨TA, hA, hB⟩ := two_sweep P b hPG hPB hb
  generalize P.s.lv.length = e1 at hA hB
  have HA := hide hA; have HB := hide hB
  clear hA hB
  have HF := hide (fun k (hk : P.foot k) => hPA.lt hk)
  have HH := hide h; have HP := hide hP; have HPA := hide hPA
  have HAG := hide hag; have HPG := hide hPG
  generalize (⟨s.toArray⟩ : ByteArray) = S at *
  generalize (⟨t.toArray⟩ : ByteArray) = T at *
  generalize (⟨u.toArray⟩ : ByteArray) = U at *
  clear h hN hP hPA hp hn hPm hag ht1 hu1 hPG hPB hb
  go_enter Tryz.func38, Tryz.ntmps38
  go_wp2_with fail
  go_region_held3 (fun w' => w'.cell? ⟨wb, 0, none⟩ = some (.slice (some ⟨g, 0, none⟩) N cap) ∧ w'.cell? ⟨W.heap.size, 1, none⟩ = some (.int .i64 m) ∧ w'.cell? ⟨g, i * 2, none⟩ = some (.pointer (some ⟨P.s.sb, 0, none⟩)) ∧ w'.cell? ⟨g, i * 2 + 1, none⟩ = some (.pointer (some ⟨P.r.rb, 0, none⟩))) (go_keep) (fail)
  have hbX := (below_two W (.cells #[.int .i64 9, .int .i64 m, .int .i64 a, .string S, .string T, .string U, .slice lp ln lc] 87) (.cells #[.pointer (some ⟨P.s.sb, 0, none⟩), .pointer (some ⟨P.r.rb, 0, none⟩)] 136)).drew
  have HL2 := hide ((unhide HH).step hbX)
  have HP2 := hide ((unhide HPA).below hbX)
  have HO2 := hide (Own2.of (W := W) (k := 9) (m := m) (a := a) (S := S) (T := T) (U := U) (lv := .slice lp ln lc) (sb := P.s.sb) (rb := P.r.rb) (fun b _ => rfl))
  have hXs : W.heap.size + 2 ≤ (((W.alloc (.cells #[.int .i64 9, .int .i64 m, .int .i64 a, .string S, .string T, .string U, .slice lp ln lc] 87)).alloc (.cells #[.pointer (some ⟨P.s.sb, 0, none⟩), .pointer (some ⟨P.r.rb, 0, none⟩)] 136)).drew).heap.size := by simp
  generalize hX : (((W.alloc (.cells #[.int .i64 9, .int .i64 m, .int .i64 a, .string S, .string T, .string U, .slice lp ln lc] 87)).alloc (.cells #[.pointer (some ⟨P.s.sb, 0, none⟩), .pointer (some ⟨P.r.rb, 0, none⟩)] 136)).drew) = X at *
  clear c0 f0 p0 p1 hr1 hr2 hwr hii hX hbX
  obtain ⟨o0, o2, o3, o4, o5, d0, d1⟩ := unhide HO2
  go_wp2_with fail
  refine (unhide HA X (unhide HP2) (unhide HL2).env).mono ?_
  rintro e X1 ⟨rfl, q, hq, hT⟩
  have hs1 := hq.only.size
  have HL3 := hide ((unhide HL2).went (unhide HP) hq)
  have HQ := hide hq.at_
  have HO3 := hide ((unhide HO2).only hXs hq.only (fun x hx => .inl (unhide HF x hx)))
  have HT := hide hT
  clear o0 o2 o3 o4 o5 d0 d1 hq hT HL2 HP2 HO2
  obtain ⟨o0, o2, o3, o4, o5, d0, d1⟩ := unhide HO3
  go_wp2_with fail
  refine (unhide HB X1 q (unhide HT) (unhide HQ)).mono ?_
  rintro e X2 ⟨rfl, q', hq', hG⟩
  have HL4 := hide ((unhide HL3).went (set_at (unhide HP) q) hq')
  have HG := hide (AgreeN.two (by omega) (unhide HAG) i q q' hG)
  clear hq' hG o0 o2 o3 o4 o5 d0 d1 HO3 HL3 HQ HT
  go_wp2
  go_ret
  exact ⟨rfl, _, _, unhide HL4, unhide HG⟩

end Go.Proofs.YthmhfilkgggagaaGreatDoor

namespace Go.Proofs.YthmhfilkgggagaaGreatDoor
open Go.RowKit Go.Maps Go.Sort

set_option maxRecDepth 100000 in
set_option maxHeartbeats 8000000 in
theorem step_tick (w0 : World) (wb : Nat) (v : Value) (ps : List Pr) (b : Nat) (m a : Int) (s t u : List UInt8) (lp : Option Addr) (ln lc : Nat) (W : World) (h : LawW w0 wb v ps W) (hn : ps.length ≤ 8796093022207) (hb : b ≤ 2932031007400) (hag : AgreeN ps b) (hp : 0 < ps.length) (ht1 : t.length ≤ 281474976710656) (hu1 : u.length ≤ 281474976710656) :
    Calls Tryz.prog 38 #[.pointer (some ⟨wb, 0, none⟩), opV 5 m a ⟨s.toArray⟩ ⟨t.toArray⟩ ⟨u.toArray⟩ (.slice lp ln lc)] W fun e w' => e = .returned (.bool true) ∧ ∃ v' ps', LawW w0 wb v' ps' w' ∧ AgreeN ps' (b + 2) ∧ ps'.length = ps.length := by
  obtain ⟨c0, _, _, f0⟩ := h.cells
  have hlt := h.lt
  obtain ⟨g, cap, N, r, i, P, hv, hgz, hN, hN0, hr1, hr2, hiN, hb1, hb2, p0, p1, hP, hPA, hPm⟩ := h.pick hp m
  subst hv
  have hun := And.intro hb (And.intro ht1 hu1)
  clear hun
  obtain ⟨hPG, hPB⟩ := hag P hPm
  have hN2 : N ≤ 8796093022207 := by omega
  have hii : (i : Int) < (N : Int) := by omega
  have hNz : ¬ ((N : Int) = 0) := by omega
  have hwr : IntKind.i64.wrap (r + (N : Int)) = r + N := IntWalk.i64_in _ ⟨by omega, by omega⟩
  have hNy : ¬ (N = 0) := by omega
  obtain ⟨TA, hA, hB⟩ := two_tick P b hPG hPB hb a
  generalize tickA P.s.tm a = e1 at hA hB
  have HA := hide hA; have HB := hide hB
  clear hA hB
  have HF := hide (fun k (hk : P.foot k) => hPA.lt hk)
  have HH := hide h; have HP := hide hP; have HPA := hide hPA
  have HAG := hide hag; have HPG := hide hPG
  generalize (⟨s.toArray⟩ : ByteArray) = S at *
  generalize (⟨t.toArray⟩ : ByteArray) = T at *
  generalize (⟨u.toArray⟩ : ByteArray) = U at *
  clear h hN hP hPA hp hn hPm hag ht1 hu1 hPG hPB hb
  go_enter Tryz.func38, Tryz.ntmps38
  go_wp2_with fail
  go_region_held3 (fun w' => w'.cell? ⟨wb, 0, none⟩ = some (.slice (some ⟨g, 0, none⟩) N cap) ∧ w'.cell? ⟨W.heap.size, 1, none⟩ = some (.int .i64 m) ∧ w'.cell? ⟨g, i * 2, none⟩ = some (.pointer (some ⟨P.s.sb, 0, none⟩)) ∧ w'.cell? ⟨g, i * 2 + 1, none⟩ = some (.pointer (some ⟨P.r.rb, 0, none⟩))) (go_keep) (fail)
  have hbX := (below_two W (.cells #[.int .i64 5, .int .i64 m, .int .i64 a, .string S, .string T, .string U, .slice lp ln lc] 87) (.cells #[.pointer (some ⟨P.s.sb, 0, none⟩), .pointer (some ⟨P.r.rb, 0, none⟩)] 136)).drew
  have HL2 := hide ((unhide HH).step hbX)
  have HP2 := hide ((unhide HPA).below hbX)
  have HO2 := hide (Own2.of (W := W) (k := 5) (m := m) (a := a) (S := S) (T := T) (U := U) (lv := .slice lp ln lc) (sb := P.s.sb) (rb := P.r.rb) (fun b _ => rfl))
  have hXs : W.heap.size + 2 ≤ (((W.alloc (.cells #[.int .i64 5, .int .i64 m, .int .i64 a, .string S, .string T, .string U, .slice lp ln lc] 87)).alloc (.cells #[.pointer (some ⟨P.s.sb, 0, none⟩), .pointer (some ⟨P.r.rb, 0, none⟩)] 136)).drew).heap.size := by simp
  generalize hX : (((W.alloc (.cells #[.int .i64 5, .int .i64 m, .int .i64 a, .string S, .string T, .string U, .slice lp ln lc] 87)).alloc (.cells #[.pointer (some ⟨P.s.sb, 0, none⟩), .pointer (some ⟨P.r.rb, 0, none⟩)] 136)).drew) = X at *
  clear c0 f0 p0 p1 hr1 hr2 hwr hii hX hbX
  obtain ⟨o0, o2, o3, o4, o5, d0, d1⟩ := unhide HO2
  go_wp2_with fail
  refine (unhide HA X (unhide HP2) (unhide HL2).env).mono ?_
  rintro e X1 ⟨rfl, q, hq, hT⟩
  have hs1 := hq.only.size
  have HL3 := hide ((unhide HL2).went (unhide HP) hq)
  have HQ := hide hq.at_
  have HO3 := hide ((unhide HO2).only hXs hq.only (fun x hx => .inl (unhide HF x hx)))
  have HT := hide hT
  clear o0 o2 o3 o4 o5 d0 d1 hq hT HL2 HP2 HO2
  obtain ⟨o0, o2, o3, o4, o5, d0, d1⟩ := unhide HO3
  go_wp2_with fail
  refine (unhide HB X1 q (unhide HT) (unhide HQ)).mono ?_
  rintro e X2 ⟨rfl, q', hq', hG⟩
  have HL4 := hide ((unhide HL3).went (set_at (unhide HP) q) hq')
  have HG := hide (AgreeN.two (by omega) (unhide HAG) i q q' hG)
  clear hq' hG o0 o2 o3 o4 o5 d0 d1 HO3 HL3 HQ HT
  go_wp2
  go_ret
  exact ⟨rfl, _, _, unhide HL4, unhide HG⟩

end Go.Proofs.YthmhfilkgggagaaGreatDoor

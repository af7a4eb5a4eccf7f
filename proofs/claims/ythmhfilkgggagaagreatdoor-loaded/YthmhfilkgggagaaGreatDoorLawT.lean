/-
  The law's world: every step; plays; Loaded, Admitted.
-/
import Derived.Test.YthmhfilkgggagaaGreatDoorLwB
import Derived.Test.YthmhfilkgggagaaGreatDoorLwC
namespace Go.Proofs.YthmhfilkgggagaaGreatDoor
open Go.RowKit Go.Maps Go.Sort

theorem begin_arr (S : ByteArray) (t : List UInt8) (hS : S = ⟨t.toArray⟩) (w0 : World) (wb : Nat) (v : Value) (ps : List Pr) (b : Nat) (W : World) (h : LawW w0 wb v ps W) (hn : ps.length ≤ 8796093022000) (hag : AgreeN ps b) :
    Calls Tryz.prog 37 #[.pointer (some ⟨wb, 0, none⟩), .string S] W fun e w' => e = .returned (.bool true) ∧ ∃ v' ps', LawW w0 wb v' ps' w' ∧ AgreeN ps' b ∧ ps'.length = ps.length + if (readS t).1.isSome = true then 1 else 0 := by
  subst hS; exact begin_any w0 wb v ps b t W h hn hag

set_option maxRecDepth 100000 in
set_option maxHeartbeats 4000000 in
theorem step_new (w0 : World) (wb : Nat) (v : Value) (ps : List Pr) (b : Nat) (m a : Int) (s : List UInt8) (S T U : ByteArray) (hS : S = ⟨s.toArray⟩) (lp : Option Addr) (ln lc : Nat) (W : World) (h : LawW w0 wb v ps W) (hn : ps.length ≤ 8796093022000) (hag : AgreeN ps b) :
    Calls Tryz.prog 38 #[.pointer (some ⟨wb, 0, none⟩), opV 1 m a S T U (.slice lp ln lc)] W fun e w' => e = .returned (.bool true) ∧ ∃ v' ps', LawW w0 wb v' ps' w' ∧ AgreeN ps' (b + 2) ∧ ps.length ≤ ps'.length ∧ ps'.length ≤ ps.length + 1 := by
  have hbg := hide (begin_arr S s hS w0 wb v ps b _ (h.step (Below.alloc1 W (.cells #[.int .i64 1, .int .i64 m, .int .i64 a, .string S, .string T, .string U, .slice lp ln lc] 87))) hn hag)
  clear h hS hag
  go_enter Tryz.func38, Tryz.ntmps38
  go_wp2_with fail
  refine (unhide hbg).mono ?_
  rintro e X ⟨rfl, v', ps', hL, hA, hlen⟩
  have HL := hide hL; have HA := hide hA; have HLN := hide hlen
  clear hL hA hlen
  go_wp2
  go_ret
  refine ⟨rfl, v', ps', unhide HL, (unhide HA).mono (by omega), ?_⟩
  have := unhide HLN
  split at this <;> omega

/-- One step of a kind up to 9. -/
theorem step_any (w0 : World) (wb : Nat) (v : Value) (ps : List Pr) (b : Nat) (k m a : Int) (s t u : List UInt8) (lp : Option Addr) (ln lc : Nat) (W : World) (h : LawW w0 wb v ps W) (hn : ps.length ≤ 8796093022000) (hb : b ≤ 2932031007400) (hag : AgreeN ps b) (hp : 0 < ps.length) (hk : k ≤ 9) (ht1 : t.length ≤ 281474976710656) (hu1 : u.length ≤ 281474976710656) :
    Calls Tryz.prog 38 #[.pointer (some ⟨wb, 0, none⟩), opV k m a ⟨s.toArray⟩ ⟨t.toArray⟩ ⟨u.toArray⟩ (.slice lp ln lc)] W fun e w' => e = .returned (.bool true) ∧ ∃ v' ps', LawW w0 wb v' ps' w' ∧ AgreeN ps' (b + 2) ∧ ps.length ≤ ps'.length ∧ ps'.length ≤ ps.length + 1 := by
  have wide : ∀ {e : Ending} {w' : World}, (e = .returned (.bool true) ∧ ∃ v' ps', LawW w0 wb v' ps' w' ∧ AgreeN ps' (b + 2) ∧ ps'.length = ps.length) → (e = .returned (.bool true) ∧ ∃ v' ps', LawW w0 wb v' ps' w' ∧ AgreeN ps' (b + 2) ∧ ps.length ≤ ps'.length ∧ ps'.length ≤ ps.length + 1) := by
    rintro e w' ⟨he, v', ps', h1, h2, h3⟩
    exact ⟨he, v', ps', h1, h2, by omega, by omega⟩
  have hn' : ps.length ≤ 8796093022207 := by omega
  by_cases h1 : k < 1
  · exact (step_none w0 wb v ps b k m a s t u lp ln lc W h hn' hb hag hp ht1 hu1 h1).mono fun e w' x => wide x
  · have : k = 1 ∨ k = 2 ∨ k = 3 ∨ k = 4 ∨ k = 5 ∨ k = 6 ∨ k = 7 ∨ k = 8 ∨ k = 9 := by omega
    rcases this with rfl | rfl | rfl | rfl | rfl | rfl | rfl | rfl | rfl
    · exact step_new w0 wb v ps b m a s _ _ _ rfl lp ln lc W h hn hag
    · exact (step_reload w0 wb v ps b m a s t u lp ln lc W h hn' hb hag hp ht1 hu1).mono fun e w' x => wide x
    · exact (step_limits w0 wb v ps b m a s t u lp ln lc W h hn' hb hag hp ht1 hu1).mono fun e w' ⟨he, v', ps', g1, g2, g3⟩ => wide ⟨he, v', ps', g1, g2.mono (by omega), g3⟩
    · exact (step_limit w0 wb v ps b m a s t u lp ln lc W h hn' hb hag hp ht1 hu1).mono fun e w' x => wide x
    · exact (step_tick w0 wb v ps b m a s t u lp ln lc W h hn' hb hag hp ht1 hu1).mono fun e w' x => wide x
    · exact (step_now w0 wb v ps b m a s t u lp ln lc W h hn' hb hag hp ht1 hu1).mono fun e w' x => wide x
    · exact (step_admit w0 wb v ps b m a s t u lp ln lc W h hn' hb hag hp ht1 hu1).mono fun e w' x => wide x
    · exact (step_level w0 wb v ps b m a s t u lp ln lc W h hn' hb hag hp ht1 hu1).mono fun e w' x => wide x
    · exact (step_sweep w0 wb v ps b m a s t u lp ln lc W h hn' hb hag hp ht1 hu1).mono fun e w' x => wide x

def firstT : List UInt8 := [100, 101, 102, 97, 117, 108, 116, 32, 111, 114, 103, 32, 105, 110, 103, 101, 115, 116, 32, 49, 48, 32, 50, 48, 10, 100, 101, 102, 97, 117, 108, 116, 32, 111, 114, 103, 32, 113, 117, 101, 114, 121, 32, 49, 48, 32, 50, 48, 10, 100, 101, 102, 97, 117, 108, 116, 32, 116, 101, 110, 97, 110, 116, 32, 105, 110, 103, 101, 115, 116, 32, 53, 32, 49, 48, 10, 100, 101, 102, 97, 117, 108, 116, 32, 116, 101, 110, 97, 110, 116, 32, 113, 117, 101, 114, 121, 32, 53, 32, 49, 48, 10, 111, 114, 103, 32, 97, 99, 109, 101, 32, 105, 110, 103, 101, 115, 116, 32, 50, 32, 49, 50]
theorem first_some : (readS firstT).1.isSome = true := by kernel_rfl
theorem default_none : (readS Sl.defaultW).1.isSome = false := by kernel_rfl

/-- An op of the script, as it lies. -/
structure OpAt (w : World) (b off : Nat) (k m a : Int) (s t u : List UInt8) (lp : Option Addr) (ln lc : Nat) : Prop where
  c0 : w.cell? ⟨b, off, none⟩ = some (.int .i64 k)
  c1 : w.cell? ⟨b, off + 1, none⟩ = some (.int .i64 m)
  c2 : w.cell? ⟨b, off + 2, none⟩ = some (.int .i64 a)
  c3 : w.cell? ⟨b, off + 3, none⟩ = some (.string ⟨s.toArray⟩)
  c4 : w.cell? ⟨b, off + 4, none⟩ = some (.string ⟨t.toArray⟩)
  c5 : w.cell? ⟨b, off + 5, none⟩ = some (.string ⟨u.toArray⟩)
  c6 : w.cell? ⟨b, off + 6, none⟩ = some (.slice lp ln lc)
  lt : t.length ≤ 281474976710656
  lu : u.length ≤ 281474976710656

theorem OpAt.below {w w' : World} {b off B : Nat} {k m a : Int} {s t u : List UInt8} {lp : Option Addr} {ln lc : Nat} (h : OpAt w b off k m a s t u lp ln lc) (hb : Below B w w') (hB : b < B) : OpAt w' b off k m a s t u lp ln lc :=
  ⟨(hb.cell (p := ⟨b, off, none⟩) hB).trans h.c0, (hb.cell (p := ⟨b, off + 1, none⟩) hB).trans h.c1, (hb.cell (p := ⟨b, off + 2, none⟩) hB).trans h.c2, (hb.cell (p := ⟨b, off + 3, none⟩) hB).trans h.c3, (hb.cell (p := ⟨b, off + 4, none⟩) hB).trans h.c4, (hb.cell (p := ⟨b, off + 5, none⟩) hB).trans h.c5, (hb.cell (p := ⟨b, off + 6, none⟩) hB).trans h.c6, h.lt, h.lu⟩

set_option maxRecDepth 100000 in
set_option maxHeartbeats 8000000 in
theorem plays_any (sp : Option Addr) (n cap : Nat) (lo hi most : Int) (hmo : most ≤ 9) (w : World) (hE : Env w) (hn : n ≤ 1466015503701)
    (hsc : 0 < n → ∃ b off, sp = some ⟨b, off, none⟩ ∧ b < w.heap.size ∧ ∀ i, i < n → ∃ k m a s t u lp ln lc, OpAt w b (off + i * 7) k m a s t u lp ln lc) :
    Calls Tryz.prog 13 #[.slice sp n cap, .int .i64 lo, .int .i64 hi, .int .i64 most] w fun e w' => e = .returned (.bool true) ∧ Below w.heap.size w w' := by
  have h0 : LawW w w.heap.size (.slice none 0 0) [] (w.alloc (.cells #[.slice none 0 0, .slice none 0 0, .bool false] 83)) :=
    ⟨(MapKept.heap_alloc w _).1, World.ownsRow_nil _ _ _ _, (by simp), List.Pairwise.nil, (by simp), Nat.le_refl _, Below.alloc1 w _, hE.below (Below.alloc1 w _) hE.size, hE.size⟩
  have H0 := hide h0; have HSC := hide hsc
  clear h0 hsc hE
  go_enter Tryz.func13, Tryz.ntmps13
  go_wp2_with fail
  refine (begin_arr _ Sl.defaultW rfl w _ _ _ 0 _ (unhide H0) (by simp) (by intro p hp; simp at hp)).mono ?_
  rintro e w1 ⟨rfl, v1, ps1, hL1, hA1, hn1⟩
  rw [default_none] at hn1
  simp only [List.length_nil, Bool.false_eq_true, if_false, Nat.add_zero] at hn1
  have HL1 := hide hL1; have HA1 := hide hA1; have HN1 := hide hn1
  clear hL1 hA1 hn1 H0
  go_wp2_with fail
  refine (begin_arr _ firstT rfl w _ _ _ 0 _ (unhide HL1) (by rw [unhide HN1]; omega) (unhide HA1)).mono ?_
  rintro e w2 ⟨rfl, v2, ps2, hL2, hA2, hn2⟩
  rw [first_some, unhide HN1] at hn2
  simp only [if_true] at hn2
  have HL2 := hide hL2; have HA2 := hide hA2; have HN2 := hide hn2
  obtain ⟨c0, _, _, _⟩ := hL2.cells
  obtain ⟨av, cv, hv2⟩ := hL2.shape
  rw [hv2, hn2] at c0
  clear hL2 hA2 hn2 HL1 HA1 HN1 hv2
  go_wp2_with fail
  refine (step_limits w _ _ _ 0 0 0 [] [] [] none 0 0 _ (unhide HL2) (by rw [unhide HN2]; omega) (by omega) (unhide HA2) (by rw [unhide HN2]; omega) (by simp) (by simp)).mono ?_
  rintro e w3 ⟨rfl, v3, ps3, hL3, hA3, hn3⟩
  rw [unhide HN2] at hn3
  have HL3 := hide hL3; have HA3 := hide hA3; have HN3 := hide hn3
  clear hL3 hA3 hn3 HL2 HA2 HN2 c0
  go_wp2_with fail
  go_loopw [13] (fun v13 wr => ∃ (i : Nat) (v : Value) (ps : List Pr), v13 = .int .i64 i ∧ i ≤ n ∧ LawW w w.heap.size v ps wr ∧ AgreeN ps (2 * i) ∧ 0 < ps.length ∧ ps.length ≤ i + 1) (fun v13 _ => n - (intOf v13).toNat)
  case atStart => exact ⟨0, v3, ps3, rfl, Nat.zero_le _, unhide HL3, unhide HA3, by rw [unhide HN3]; omega, by rw [unhide HN3]; omega⟩
  case round =>
    obtain ⟨i, v, ps, rfl, hi, hL, hA, hps, hpl⟩ := hrel
    have HL := hide hL; have HA := hide hA
    have hwb := hL.lt
    clear hL hA
    by_cases hin : i < n
    · obtain ⟨b, off, rfl, hb, hops⟩ := unhide HSC (by omega)
      obtain ⟨k, m, a, s, t, u, lp, ln, lc, hop0⟩ := hops i hin
      have hop := hop0.below (unhide HL).below hb
      have hbw : b < wr.heap.size := Nat.lt_of_lt_of_le hb (unhide HL).below.size
      have hii : (i : Int) < (n : Int) := by omega
      obtain ⟨x0, x1, x2, x3, x4, x5, x6, lt, lu⟩ := hop
      clear hops hop0
      by_cases hk : k ≤ most
      · have hkn : ¬ most < k := by omega
        have hst := hide (step_any w w.heap.size v ps (2 * i) k m a s t u lp ln lc _ ((unhide HL).step (Below.alloc1 wr (.cells #[.int .i64 k, .int .i64 m, .int .i64 a, .string ⟨s.toArray⟩, .string ⟨t.toArray⟩, .string ⟨u.toArray⟩, .slice lp ln lc] 87))) (by omega) (by omega) (unhide HA) hps (by omega) lt lu)
        clear hk
        go_wp2_with fail
        refine (unhide hst).mono ?_
        rintro e w5 ⟨rfl, v5, ps5, hL5, hA5, hn5, hn6⟩
        have HL5 := hide hL5; have HA5 := hide hA5
        clear hL5 hA5 hst x0 x1 x2 x3 x4 x5 x6
        go_wp2_with fail
        refine (looks_any w _ _ _ _ (unhide HL5)).mono ?_
        rintro e w6 ⟨rfl, rfl⟩
        go_wp2
        go_roundw
        case rel => exact ⟨i + 1, v5, ps5, by go_num, by omega, unhide HL5, (unhide HA5).mono (by omega), by omega, by omega⟩
        case measure => simp [intOf]; omega
      · have hkn : most < k := by omega
        clear hk
        go_wp2
        go_roundw
        case rel => exact ⟨i + 1, v, ps, by go_num, by omega, (unhide HL).step (Below.alloc1 wr _), (unhide HA).mono (by omega), hps, by omega⟩
        case measure => simp [intOf]; omega
    · have hii : ¬ (i : Int) < (n : Int) := by omega
      go_wp2
      go_ret
      exact ⟨rfl, (unhide HL).below⟩

set_option maxRecDepth 100000 in
theorem loaded_any (sp : Option Addr) (n cap : Nat) (w : World) (hE : Env w) (hn : n ≤ 1466015503701)
    (hsc : 0 < n → ∃ b off, sp = some ⟨b, off, none⟩ ∧ b < w.heap.size ∧ ∀ i, i < n → ∃ k m a s t u lp ln lc, OpAt w b (off + i * 7) k m a s t u lp ln lc) :
    Calls Tryz.prog 3 #[.slice sp n cap] w fun e w' => e = .returned (.bool true) ∧ Below w.heap.size w w' := by
  have hp := hide (plays_any sp n cap 2 4 4 (by omega) w hE hn hsc)
  clear hE hsc
  go_enter Tryz.func3, Tryz.ntmps3
  go_wp2_with fail
  refine (unhide hp).mono ?_
  rintro e w1 ⟨rfl, hb⟩
  go_wp2
  go_ret
  exact ⟨rfl, hb⟩

set_option maxRecDepth 100000 in
theorem admitted_any (sp : Option Addr) (n cap : Nat) (w : World) (hE : Env w) (hn : n ≤ 1466015503701)
    (hsc : 0 < n → ∃ b off, sp = some ⟨b, off, none⟩ ∧ b < w.heap.size ∧ ∀ i, i < n → ∃ k m a s t u lp ln lc, OpAt w b (off + i * 7) k m a s t u lp ln lc) :
    Calls Tryz.prog 4 #[.slice sp n cap] w fun e w' => e = .returned (.bool true) ∧ Below w.heap.size w w' := by
  have hp := hide (plays_any sp n cap 2 9 9 (by omega) w hE hn hsc)
  clear hE hsc
  go_enter Tryz.func4, Tryz.ntmps4
  go_wp2_with fail
  refine (unhide hp).mono ?_
  rintro e w1 ⟨rfl, hb⟩
  go_wp2
  go_ret
  exact ⟨rfl, hb⟩

end Go.Proofs.YthmhfilkgggagaaGreatDoor

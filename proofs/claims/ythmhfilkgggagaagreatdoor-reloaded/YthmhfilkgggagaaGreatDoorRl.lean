/-
  Reloaded: the walk.
-/
import Derived.Test.YthmhfilkgggagaaGreatDoorKpA
namespace Go.Proofs.YthmhfilkgggagaaGreatDoor
open Go.RowKit Go.Maps Go.Sort

/-- What Reloaded asks of the level. -/
theorem reload_level (p q : Nat → Sl.Lim) (hp : OkP 2 p) (hq : OkP 2 q) (C n m : Nat) (hC0 : 1 ≤ C) (hC : C ≤ 30) :
    levOf (fallV (entries q) m (fallV (entries p) n (putV (putV [] (1, orgW 1, []) (C * 1000000000)) (1, orgW 1, tenW 0) (C * 1000000000)))) (1, orgW 1, tenW 0) = C * 1000000000 - n * (limTen p 1 1 0).rate - m * (limTen q 1 1 0).rate := by
  have hk1 : OkK (1, orgW 1, []) := ⟨by show 1 < 2; omega, by decide, by simp⟩
  have hk2 : OkK (1, orgW 1, tenW 0) := ⟨by show 1 < 2; omega, by decide, by decide⟩
  have ok1 := OkV.none.put hk1 (v := C * 1000000000) (by omega) (by omega)
  have ok2 := ok1.put hk2 (v := C * 1000000000) (by omega) (by omega)
  rw [levOf_fall (ok2.fall _ _), levOf_fall ok2, levOf_put _ _ _ _ ok1 ok2, if_pos rfl, limK_ten (holds_self p) hp 1 1 0 (by omega) (by omega) (by omega), limK_ten (holds_self q) hq 1 1 0 (by omega) (by omega) (by omega)]

set_option maxRecDepth 100000 in
set_option maxHeartbeats 40000000 in
theorem reloaded_any (cp dp : Option Addr) (cn cc dn dc : Nat) (ti ui : Int) (w : World) (hE : Env w) (hti : -9223372036854775808 ≤ ti ∧ ti ≤ 9223372036854775807) (hui : -9223372036854775808 ≤ ui ∧ ui ≤ 9223372036854775807)
    (hn : cn ≤ 281474976710656) (hcode : 0 < cn → ∃ a, cp = some a ∧ a.block < w.heap.size ∧ ∀ i, i < cn → ∃ x : Int, w.cell? (a.add i) = some (.int .i64 x) ∧ -9223372036854775808 ≤ x ∧ x ≤ 9223372036854775807)
    (hn2 : dn ≤ 281474976710656) (hcode2 : 0 < dn → ∃ a, dp = some a ∧ a.block < w.heap.size ∧ ∀ i, i < dn → ∃ x : Int, w.cell? (a.add i) = some (.int .i64 x) ∧ -9223372036854775808 ≤ x ∧ x ≤ 9223372036854775807) :
    Calls Tryz.prog 11 #[.slice cp cn cc, .slice dp dn dc, .int .i64 ti, .int .i64 ui] w fun e w' => e = .returned (.bool true) ∧ Below w.heap.size w w' := by
  have hd0 := dice_laid (Below.refl w.heap.size w) cp cn cc hn hcode
  have hpl := hide (planned_any w.heap.size w.heap.size _ hd0)
  have HD2 := hide (fun W (hb : Below w.heap.size w W) => dice_laid hb dp dn dc hn2 hcode2)
  have hz := hE.size
  have HE := hide hE
  clear hd0 hcode hcode2 hE
  go_enter Tryz.func11, Tryz.ntmps11
  go_wp2_with fail
  refine (unhide hpl).mono ?_
  rintro e w1 ⟨hd1, hg1, p, hp, rfl⟩
  have hb1 : Below w.heap.size w w1 := plan_taken hg1
  obtain ⟨wz, hst, hbz, hrz, hzz⟩ := plan_laid p w1
  have hbz0 := hb1.trans (hbz.mono hb1.size)
  have hpl2 := hide (planned_any _ _ _ (unhide HD2 wz hbz0))
  have hfn := plan_f p hp
  have hEz := ((unhide HE).below hb1 hz).below hbz (Nat.le_trans hz hb1.size)
  obtain ⟨cs, hcs⟩ : ∃ cs : List Value, pc p = cs.toArray := ⟨(pc p).toList, rfl⟩
  rw [hcs] at hst hfn hrz ⊢
  simp only [] at hst hfn hrz
  have HP := hide hp; have HF := hide hfn; have HR := hide hrz; have HBZ := hide hbz0; have HEZ := hide hEz
  have hlen : cs.length = 32 := hfn.len
  have hs1 := hb1.size
  have HZZ := hide hzz
  have hz1 : w1.heap.size < wz.heap.size := by omega
  clear hzz hp hd1 hg1 hb1 hbz hrz hpl HD2 hcs hfn hbz0 hEz HE
  go_wp2_with fail
  refine (unhide hpl2).mono ?_
  rintro e w2 ⟨hd2, hg2, q, hq, rfl⟩
  have hb2 : Below wz.heap.size wz w2 := plan_taken hg2
  obtain ⟨wy, hsy, hby, hry, hzy⟩ := plan_laid q w2
  have hfq := plan_f q hq
  obtain ⟨ds, hds⟩ : ∃ ds : List Value, pc q = ds.toArray := ⟨(pc q).toList, rfl⟩
  rw [hds] at hsy hfq hry ⊢
  simp only [] at hsy hfq hry
  have hbzy : Below wz.heap.size wz wy := hb2.trans (hby.mono hb2.size)
  have hR1 := Below.range hbzy (by omega) (unhide HR)
  have HR1 := hide hR1; have HQ := hide hq; have HG := hide hfq; have HR2 := hide hry
  have HBY := hide ((unhide HBZ).trans (hbzy.mono (unhide HBZ).size))
  have hEy := hide ((unhide HEZ).below hbzy (by omega))
  have hlen2 : ds.length = 32 := hfq.len
  have hs2 := hb2.size
  have hz2 : w2.heap.size < wy.heap.size := by omega
  have hs3 : w.heap.size ≤ wy.heap.size := (unhide HBY).size
  clear hzy hq hd2 hg2 hb2 hby hry hds hfq hbzy hR1 hpl2 hst HR HBZ HEZ
  generalize hTe : (⟨(upD q 2).toArray⟩ : ByteArray) = T at *
  have HTE := hide hTe
  clear hTe
  go_wp2_with (first
    | (refine wpList_load_mid rfl 32 (.tmp 9) rfl w1.heap.size 0 rfl cs _ (unhide HR1) Tryz.underlying32 rfl ?_ ?_; (rw [hlen]; exact plan_size)))
  refine ((unhide HF).made wy (unhide hEy)).mono ?_
  rintro e w3 ⟨s, rfl, hat, hb3, hft, hsl, hst0, hsv⟩
  have H1 := hide (Held.of_range (s := s) (Below.range hb3 (by omega) (unhide HR1)) (Nat.lt_of_lt_of_le (by omega) hb3.size) (fun hk => by have := hft _ hk; omega))
  have H2 := hide (Held.of_range (s := s) (Below.range hb3 (by omega) (unhide HR2)) (Nat.lt_of_lt_of_le (by omega) hb3.size) (fun hk => by have := hft _ hk; omega))
  have HW : Hid (Way w s w3) := hide ⟨hat, (unhide hEy).below hb3 (by omega), (unhide HBY).trans (hb3.mono hs3), hz, fun k hk => Nat.le_trans hs3 (hft k hk)⟩
  have HS := hide (And.intro hsl (And.intro hst0 hsv))
  clear hat hb3 hft hsl hst0 hsv HR1 HR2 HBY hEy hsy
  go_wp2_with (first
    | (refine wpList_load_mid rfl 32 (.tmp 9) rfl w1.heap.size 0 rfl cs _ (unhide H1).range Tryz.underlying32 rfl ?_ ?_; (rw [hlen]; exact plan_size)))
  refine ((unhide HF).limits 1 1 0 _ (by omega) (by omega) (by omega)).mono ?_
  rintro e w4 ⟨rfl, hb4⟩
  obtain ⟨lx, hlx⟩ : ∃ x, x = limTen p 1 1 0 := ⟨_, rfl⟩
  obtain ⟨la, hla⟩ : ∃ x, x = limOrg p 1 1 := ⟨_, rfl⟩
  rw [← hlx, ← hla]
  have okx : OkLim lx := by rw [hlx]; exact limTen_ok (unhide HP) 1 1 0 (by omega)
  have oka : OkLim la := by rw [hla]; exact limOrg_ok (unhide HP) 1 1 (by omega)
  have HX := hide hlx; have HLA := hide hla
  have hW4 := ((unhide HW).step hb4)
  obtain ⟨hX4, hA4⟩ := Held.made2 hW4.at_ #[.int .i64 lx.rate, .int .i64 lx.burst] #[.int .i64 la.rate, .int .i64 la.burst] 27 27
  have hb4' := (Below.alloc1 w4 (.cells #[.int .i64 lx.rate, .int .i64 lx.burst] 27)).alloc (by simp) (.cells #[.int .i64 la.rate, .int .i64 la.burst] 27)
  obtain ⟨V4, hV4⟩ : ∃ V, V = (w4.alloc (.cells #[.int .i64 lx.rate, .int .i64 lx.burst] 27)).alloc (.cells #[.int .i64 la.rate, .int .i64 la.burst] 27) := ⟨_, rfl⟩
  have H2L := hide (((unhide H2).below hb4).below hb4')
  rw [← hV4] at hX4 hA4 hb4'
  have HW4 := hide (hW4.step hb4')
  have H14 := hide (((unhide H1).below hb4).below hb4')
  have H24 := hide (((unhide H2).below hb4).below hb4')
  have HX4 := hide hX4; have HA4 := hide hA4; have HV4 := hide hV4
  clear hlx hla hW4 hX4 hA4 hb4 hb4' hV4 H1 H2 HW
  go_wp2_with (first
    | (refine wpList_load_mid rfl 32 (.tmp 10) rfl w2.heap.size 0 rfl ds _ (unhide H2L).range Tryz.underlying32 rfl ?_ ?_; (rw [hlen2]; exact plan_size)))
  rw [← unhide HV4]
  refine ((unhide HG).limits 1 1 0 _ (by omega) (by omega) (by omega)).mono ?_
  rintro e w5 ⟨rfl, hb5⟩
  obtain ⟨ly, hly⟩ : ∃ x, x = limTen q 1 1 0 := ⟨_, rfl⟩
  obtain ⟨lz, hlz⟩ : ∃ x, x = limOrg q 1 1 := ⟨_, rfl⟩
  rw [← hly, ← hlz]
  have oky : OkLim ly := by rw [hly]; exact limTen_ok (unhide HQ) 1 1 0 (by omega)
  have HY := hide hly
  have hW5 := ((unhide HW4).step hb5)
  obtain ⟨hY5, -⟩ := Held.made2 hW5.at_ #[.int .i64 ly.rate, .int .i64 ly.burst] #[.int .i64 lz.rate, .int .i64 lz.burst] 27 27
  have hb5' := (Below.alloc1 w5 (.cells #[.int .i64 ly.rate, .int .i64 ly.burst] 27)).alloc (by simp) (.cells #[.int .i64 lz.rate, .int .i64 lz.burst] 27)
  obtain ⟨V5, hV5⟩ : ∃ V, V = (w5.alloc (.cells #[.int .i64 ly.rate, .int .i64 ly.burst] 27)).alloc (.cells #[.int .i64 lz.rate, .int .i64 lz.burst] 27) := ⟨_, rfl⟩
  have hx5 := ((unhide HX4).below hb5).below hb5'
  have ha5 := ((unhide HA4).below hb5).below hb5'
  have x1 := hx5.at_ 1 _ rfl
  have a1 := ha5.at_ 1 _ rfl
  rw [← hV5] at hY5 hb5' hx5 ha5
  have HW5 := hide (hW5.step hb5')
  have H15 := hide (((unhide H14).below hb5).below hb5')
  have H25 := hide (((unhide H24).below hb5).below hb5')
  have HX5 := hide hx5; have HA5 := hide ha5; have HY5 := hide hY5; have HV5 := hide hV5
  clear hly hlz hW5 hb5 hb5' hV5 H14 H24 HW4 HX4 HA4 H2L HV4 hx5 ha5 hY5
  have hrx := okx.2.2; have hra := oka.2.2
  by_cases hlt : la.burst < lx.burst
  · have qlt : (la.burst : Int) < (lx.burst : Int) := by omega
    obtain ⟨hl1, hl2, hl3⟩ := unhide HS
    have hk1 : limK s.l (1, orgW 1, []) = la := by rw [hl1, unhide HLA]; exact limK_org (holds_self p) (unhide HP) 1 1 (by omega) (by omega)
    have hk2 : limK s.l (1, orgW 1, tenW 0) = lx := by rw [hl1, unhide HX]; exact limK_ten (holds_self p) (unhide HP) 1 1 0 (by omega) (by omega) (by omega)
    have hC0 : 1 ≤ la.burst := by have := okx.2.1; have := oka.2.1; omega
    have hC1 : la.burst ≤ 30 := by omega
    have hadm := st_admit s (Sl.classW 1) (orgW 1) (tenW 0) (la.burst : Nat) V5 (unhide HW5).at_
    rw [admA_plan s.l s.lv 1 1 0 _ (by omega) hC0 (by omega), hl3, admit_first s.l (1, orgW 1, tenW 0) _ (by show _ ≤ (limK s.l (1, orgW 1, [])).burst; rw [hk1]; omega) (by rw [hk2]; omega) (by show 0 < (limK s.l (1, orgW 1, [])).rate; rw [hk1]; exact oka.1.1) (by rw [hk2]; exact okx.1.1)] at hadm
    have HADM := hide hadm
    clear hadm hl1 hl2 hl3 hk1 hk2
    go_wp2_with (go_at_call 24; refine (org_any 1 _ (by omega)).mono ?_; rintro e wx ⟨rfl, rfl⟩)
    rw [← unhide HV5]
    refine (unhide HADM).mono ?_
    rintro e w6 ⟨rfl, t1, hw1, hl1, ht1, hv1⟩
    have hsb1 := hw1.sb
    have hW6 := (unhide HW5).went hw1
    have hN6 := Held.made hW6.at_ #[.int .i64 204, .int .i64 0, .int .i64 0] 61
    have hb6 := Below.alloc1 w6 (.cells #[.int .i64 204, .int .i64 0, .int .i64 0] 61)
    obtain ⟨V6, hV6⟩ : ∃ V, V = w6.alloc (.cells #[.int .i64 204, .int .i64 0, .int .i64 0] 61) := ⟨_, rfl⟩
    rw [← hV6] at hN6 hb6
    have HW6 := hide (hW6.step hb6)
    have H26 := hide (((unhide H25).went hw1).below hb6)
    have HX6 := hide (((unhide HX5).went hw1).below hb6)
    have HY6 := hide (((unhide HY5).went hw1).below hb6)
    have HN6 := hide hN6; have HV6 := hide hV6
    have HT1 := hide (And.intro (hl1.trans (unhide HS).1) (And.intro (ht1.trans (unhide HS).2.1) hv1))
    have HB1 := hide hsb1
    clear hw1 hl1 ht1 hv1 hW6 hN6 hb6 hV6 hsb1 HW5 H15 H25 HX5 HA5 HY5 HADM HV5 x1 a1
    go_wp2_with fail
    rw [← unhide HV6]
    refine (pick_any ti 50000000 _ hti.1 hti.2 (by omega) (by omega)).mono ?_
    rintro e wx ⟨rfl, n, hn, rfl⟩
    go_wp2_with fail
    refine (pick_any ui 50000000 _ hui.1 hui.2 (by omega) (by omega)).mono ?_
    rintro e wx ⟨rfl, m, hm, rfl⟩
    have htk := st_tick_ok t1 n wx (unhide HW6).at_ (by have := (unhide HT1).2.1; omega)
    rw [unhide HB1] at htk
    have HTK := hide htk
    clear htk
    go_wp2_with fail
    refine (unhide HTK).mono ?_
    rintro e w7 ⟨rfl, t2, hw2, hl2, ht2, hv2⟩
    have HW7 := hide ((unhide HW6).went hw2)
    have H27 := hide ((unhide H26).went hw2)
    have HX7 := hide ((unhide HX6).went hw2)
    have HY7 := hide ((unhide HY6).went hw2)
    have HN7 := hide ((unhide HN6).went hw2)
    have HB2 := hide (hw2.sb.trans (unhide HB1))
    have HT2 := hide (And.intro (hl2.trans (unhide HT1).1) (And.intro (show t2.tm = n by rw [ht2, (unhide HT1).2.1]; omega) (show t2.lv = fallV (entries p) n (putV (putV [] (1, orgW 1, []) (la.burst * 1000000000)) (1, orgW 1, tenW 0) (la.burst * 1000000000)) by rw [hv2, (unhide HT1).1, (unhide HT1).2.2])))
    clear hw2 hl2 ht2 hv2 HW6 H26 HX6 HY6 HN6 HB1 HT1 HTK HV6
    go_wp2_with (first
      | (refine wpList_load_mid rfl 32 (.tmp 10) rfl w2.heap.size 0 rfl ds _ (unhide H27).range Tryz.underlying32 rfl ?_ ?_; (rw [hlen2]; exact plan_size)))
    refine ((unhide HG).canonical _).mono ?_
    rintro e w8 ⟨rfl, hb8⟩
    have HW8 := hide ((unhide HW7).step hb8)
    have H28 := hide ((unhide H27).below hb8)
    have HX8 := hide ((unhide HX7).below hb8)
    have HY8 := hide ((unhide HY7).below hb8)
    have HN8 := hide ((unhide HN7).below hb8)
    have hrl := st_reload t2 (upD q 2 ++ [120, 10]) w8 (unhide HW8).at_ (unhide HW8).env
    obtain ⟨TU, hTU, hcat⟩ := cat_ex T ⟨#[120, 10]⟩ (upD q 2) [120, 10] (unhide HTE).symm rfl (by have := plan_len (unhide HQ); rw [← plan_flat (unhide HQ)] at this; simp; omega)
    rw [unhide HB2, read_x (unhide HQ), ← hTU] at hrl
    have HRL := hide hrl
    have hef := ent_four (unhide HQ)
    have hel := ent_len q
    generalize (entries q).length = EN at *
    have h4 : (4 : Int) < (EN : Int) + 1 := by omega
    clear hb8 HW7 H27 HX7 HY7 HN7 hrl hTU
    go_wp2_with fail
    refine (unhide HRL).mono ?_
    rintro e w9 ⟨rfl, t3, hw3, hl3, ht3, hv3⟩
    have HW9 := hide ((unhide HW8).went hw3)
    have H29 := hide ((unhide H28).went hw3)
    have HX9 := hide ((unhide HX8).went hw3)
    have HY9 := hide ((unhide HY8).went hw3)
    have HN9 := hide ((unhide HN8).went hw3)
    have HB3 := hide (hw3.sb.trans (unhide HB2))
    have HT3 := hide (And.intro (ht3.trans (unhide HT2).2.1) (hv3.trans (unhide HT2).2.2))
    clear hw3 hl3 ht3 hv3 HW8 H28 HX8 HY8 HN8 HB2 HT2 HRL hcat
    go_wp2_with (first
      | (refine wpList_load_mid rfl 32 (.tmp 10) rfl w2.heap.size 0 rfl ds _ (unhide H29).range Tryz.underlying32 rfl ?_ ?_; (rw [hlen2]; exact plan_size)))
    refine ((unhide HG).canonical _).mono ?_
    rintro e w10 ⟨rfl, hb10⟩
    have HW10 := hide ((unhide HW9).step hb10)
    have H210 := hide ((unhide H29).below hb10)
    have HX10 := hide ((unhide HX9).below hb10)
    have HY10 := hide ((unhide HY9).below hb10)
    have HN10 := hide ((unhide HN9).below hb10)
    have hrl := st_reload t3 (upD q 2) w10 (unhide HW10).at_ (unhide HW10).env
    rw [unhide HB3, read_canon (unhide HQ), unhide HTE] at hrl
    have HRL := hide hrl
    clear hb10 HW9 H29 HX9 HY9 HN9 hrl
    go_wp2_with fail
    refine (unhide HRL).mono ?_
    rintro e w11 ⟨rfl, t4, hw4, hl4, ht4, hv4⟩
    have HW11 := hide ((unhide HW10).went hw4)
    have H211 := hide ((unhide H210).went hw4)
    have HX11 := hide ((unhide HX10).went hw4)
    have HY11 := hide ((unhide HY10).went hw4)
    have HN11 := hide ((unhide HN10).went hw4)
    have HB4 := hide (hw4.sb.trans (unhide HB3))
    have HT4 := hide (And.intro (show t4.l = entries q from hl4) (And.intro (ht4.trans (unhide HT3).1) (hv4.trans (unhide HT3).2)))
    have htk := st_tick_ok t4 m w11 (unhide HW11).at_ (by have := (unhide HT4).2.1; omega)
    rw [unhide HB4] at htk
    have HTK := hide htk
    clear htk hw4 hl4 ht4 hv4 HW10 H210 HX10 HY10 HN10 HB3 HT3 HRL
    go_wp2_with fail
    refine (unhide HTK).mono ?_
    rintro e w12 ⟨rfl, t5, hw5, hl5, ht5, hv5⟩
    have HW12 := hide ((unhide HW11).went hw5)
    have H212 := hide ((unhide H211).went hw5)
    have HX12 := hide ((unhide HX11).went hw5)
    have HY12 := hide ((unhide HY11).went hw5)
    have HN12 := hide ((unhide HN11).went hw5)
    have HB5 := hide (hw5.sb.trans (unhide HB4))
    have hq5 : t5.l = entries q := hl5.trans (unhide HT4).1
    have hlev : levOf t5.lv (1, orgW 1, tenW 0) = la.burst * 1000000000 - n * lx.rate - m * ly.rate := by
      rw [hv5, (unhide HT4).1, (unhide HT4).2.2, reload_level p q (unhide HP) (unhide HQ) _ n m hC0 hC1, ← unhide HX, ← unhide HY]
    have hlv := st_level t5 (Sl.classW 1) (orgW 1) (tenW 0) w12 (unhide HW12).at_
    rw [unhide HB5, levelA_ten _ 1 1 0 (by omega), hlev] at hlv
    obtain ⟨N1, hN1⟩ : ∃ x, x = n * lx.rate := ⟨_, rfl⟩
    obtain ⟨M1, hM1⟩ : ∃ x, x = m * ly.rate := ⟨_, rfl⟩
    have eN : (n : Int) * (lx.rate : Int) = (N1 : Int) := by rw [hN1]; simp
    have eM : (m : Int) * (ly.rate : Int) = (M1 : Int) := by rw [hM1]; simp
    have bN : N1 ≤ 2500000000 := by rw [hN1]; exact Nat.le_trans (Nat.mul_le_mul (Nat.le_of_lt hn) okx.1.2) (by omega)
    have bM : M1 ≤ 2500000000 := by rw [hM1]; exact Nat.le_trans (Nat.mul_le_mul (Nat.le_of_lt hm) oky.1.2) (by omega)
    rw [← hN1, ← hM1] at hlv
    obtain ⟨L, hL⟩ : ∃ x, x = la.burst * 1000000000 - N1 - M1 := ⟨_, rfl⟩
    rw [← hL] at hlv
    have HLV := hide hlv; have HQ5 := hide hq5
    clear hw5 hl5 ht5 hv5 hlev hlv hN1 hM1 hq5 HW11 H211 HX11 HY11 HN11 HB4 HT4 HTK
    go_wp2_with (go_at_call 24; refine (org_any 1 _ (by omega)).mono ?_; rintro e wx ⟨rfl, rfl⟩)
    refine (unhide HLV).mono ?_
    rintro e w13 ⟨rfl, hw6⟩
    have HW13 := hide ((unhide HW12).went hw6)
    have H213 := hide ((unhide H212).went hw6)
    have hx13 := (unhide HX12).went hw6
    have hy13 := (unhide HY12).went hw6
    have HN13 := hide ((unhide HN12).went hw6)
    have x0 := hx13.at_ 0 _ rfl
    have y0 := hy13.at_ 0 _ rfl
    have hlim := st_limits t5 w13 (unhide HW13).at_ (unhide HW13).env
    rw [unhide HB5, unhide HQ5, (holds_self q).text (unhide HQ), unhide HTE] at hlim
    have HLIM := hide hlim
    clear hw6 hx13 hy13 hlim HW12 H212 HX12 HY12 HN12 HLV
    by_cases qa : (la.burst : Int) * 1000000000 - (N1 : Int) < 0
    · have hL0 : L = 0 := by omega
      subst hL0
      clear hL
      by_cases qb : (0 : Int) - (M1 : Int) < 0
      · go_wp2_with fail
        refine (unhide HLIM).mono ?_
        rintro e w14 ⟨rfl, hw7⟩
        have hn14 := (unhide HN13).went hw7
        have h214 := (unhide H213).went hw7
        have HW14 := hide ((unhide HW13).went hw7)
        have n0 := hn14.at_ 0 _ rfl
        have H214 := hide h214
        clear hw7 hn14 h214 x0 y0
        go_wp2_with (refine wpList_load_guarded (by rfl) 32 (.tmp 10) rfl w2.heap.size 0 rfl ds _ (unhide H214).range Tryz.underlying32 rfl ?_ ?_; (rw [hlen2]; exact plan_size))
        refine ((unhide HG).canonical _).mono ?_
        rintro e w15 ⟨rfl, hb15⟩
        have HB15 := hide hb15
        clear hb15
        go_wp2
        go_ret
        exact ⟨rfl, ((unhide HW14).step (unhide HB15)).below⟩
      · have hM0 : M1 = 0 := by omega
        subst hM0
        go_wp2_with fail
        refine (unhide HLIM).mono ?_
        rintro e w14 ⟨rfl, hw7⟩
        have hn14 := (unhide HN13).went hw7
        have h214 := (unhide H213).went hw7
        have HW14 := hide ((unhide HW13).went hw7)
        have n0 := hn14.at_ 0 _ rfl
        have H214 := hide h214
        clear hw7 hn14 h214 x0 y0
        go_wp2_with (refine wpList_load_guarded (by rfl) 32 (.tmp 10) rfl w2.heap.size 0 rfl ds _ (unhide H214).range Tryz.underlying32 rfl ?_ ?_; (rw [hlen2]; exact plan_size))
        refine ((unhide HG).canonical _).mono ?_
        rintro e w15 ⟨rfl, hb15⟩
        have HB15 := hide hb15
        clear hb15
        go_wp2
        go_ret
        exact ⟨rfl, ((unhide HW14).step (unhide HB15)).below⟩
    · by_cases qb : (la.burst : Int) * 1000000000 - (N1 : Int) - (M1 : Int) < 0
      · have hL0 : L = 0 := by omega
        subst hL0
        clear hL
        go_wp2_with fail
        refine (unhide HLIM).mono ?_
        rintro e w14 ⟨rfl, hw7⟩
        have hn14 := (unhide HN13).went hw7
        have h214 := (unhide H213).went hw7
        have HW14 := hide ((unhide HW13).went hw7)
        have n0 := hn14.at_ 0 _ rfl
        have H214 := hide h214
        clear hw7 hn14 h214 x0 y0
        go_wp2_with (refine wpList_load_guarded (by rfl) 32 (.tmp 10) rfl w2.heap.size 0 rfl ds _ (unhide H214).range Tryz.underlying32 rfl ?_ ?_; (rw [hlen2]; exact plan_size))
        refine ((unhide HG).canonical _).mono ?_
        rintro e w15 ⟨rfl, hb15⟩
        have HB15 := hide hb15
        clear hb15
        go_wp2
        go_ret
        exact ⟨rfl, ((unhide HW14).step (unhide HB15)).below⟩
      · have hLI : (L : Int) = (la.burst : Int) * 1000000000 - (N1 : Int) - (M1 : Int) := by omega
        clear hL
        go_wp2_with fail
        refine (unhide HLIM).mono ?_
        rintro e w14 ⟨rfl, hw7⟩
        have hn14 := (unhide HN13).went hw7
        have h214 := (unhide H213).went hw7
        have HW14 := hide ((unhide HW13).went hw7)
        have n0 := hn14.at_ 0 _ rfl
        have H214 := hide h214
        clear hw7 hn14 h214 x0 y0
        go_wp2_with (refine wpList_load_guarded (by rfl) 32 (.tmp 10) rfl w2.heap.size 0 rfl ds _ (unhide H214).range Tryz.underlying32 rfl ?_ ?_; (rw [hlen2]; exact plan_size))
        refine ((unhide HG).canonical _).mono ?_
        rintro e w15 ⟨rfl, hb15⟩
        have HB15 := hide hb15
        clear hb15
        go_wp2
        go_ret
        exact ⟨rfl, ((unhide HW14).step (unhide HB15)).below⟩
  · have qlt : ¬ (la.burst : Int) < (lx.burst : Int) := by omega
    obtain ⟨hl1, hl2, hl3⟩ := unhide HS
    have hk1 : limK s.l (1, orgW 1, []) = la := by rw [hl1, unhide HLA]; exact limK_org (holds_self p) (unhide HP) 1 1 (by omega) (by omega)
    have hk2 : limK s.l (1, orgW 1, tenW 0) = lx := by rw [hl1, unhide HX]; exact limK_ten (holds_self p) (unhide HP) 1 1 0 (by omega) (by omega) (by omega)
    have hC0 : 1 ≤ lx.burst := by have := okx.2.1; have := oka.2.1; omega
    have hC1 : lx.burst ≤ 30 := by omega
    have hadm := st_admit s (Sl.classW 1) (orgW 1) (tenW 0) (lx.burst : Nat) V5 (unhide HW5).at_
    rw [admA_plan s.l s.lv 1 1 0 _ (by omega) hC0 (by omega), hl3, admit_first s.l (1, orgW 1, tenW 0) _ (by show _ ≤ (limK s.l (1, orgW 1, [])).burst; rw [hk1]; omega) (by rw [hk2]; omega) (by show 0 < (limK s.l (1, orgW 1, [])).rate; rw [hk1]; exact oka.1.1) (by rw [hk2]; exact okx.1.1)] at hadm
    have HADM := hide hadm
    clear hadm hl1 hl2 hl3 hk1 hk2
    go_wp2_with (go_at_call 24; refine (org_any 1 _ (by omega)).mono ?_; rintro e wx ⟨rfl, rfl⟩)
    rw [← unhide HV5]
    refine (unhide HADM).mono ?_
    rintro e w6 ⟨rfl, t1, hw1, hl1, ht1, hv1⟩
    have hsb1 := hw1.sb
    have hW6 := (unhide HW5).went hw1
    have hN6 := Held.made hW6.at_ #[.int .i64 204, .int .i64 0, .int .i64 0] 61
    have hb6 := Below.alloc1 w6 (.cells #[.int .i64 204, .int .i64 0, .int .i64 0] 61)
    obtain ⟨V6, hV6⟩ : ∃ V, V = w6.alloc (.cells #[.int .i64 204, .int .i64 0, .int .i64 0] 61) := ⟨_, rfl⟩
    rw [← hV6] at hN6 hb6
    have HW6 := hide (hW6.step hb6)
    have H26 := hide (((unhide H25).went hw1).below hb6)
    have HX6 := hide (((unhide HX5).went hw1).below hb6)
    have HY6 := hide (((unhide HY5).went hw1).below hb6)
    have HN6 := hide hN6; have HV6 := hide hV6
    have HT1 := hide (And.intro (hl1.trans (unhide HS).1) (And.intro (ht1.trans (unhide HS).2.1) hv1))
    have HB1 := hide hsb1
    clear hw1 hl1 ht1 hv1 hW6 hN6 hb6 hV6 hsb1 HW5 H15 H25 HX5 HA5 HY5 HADM HV5 x1 a1
    go_wp2_with fail
    rw [← unhide HV6]
    refine (pick_any ti 50000000 _ hti.1 hti.2 (by omega) (by omega)).mono ?_
    rintro e wx ⟨rfl, n, hn, rfl⟩
    go_wp2_with fail
    refine (pick_any ui 50000000 _ hui.1 hui.2 (by omega) (by omega)).mono ?_
    rintro e wx ⟨rfl, m, hm, rfl⟩
    have htk := st_tick_ok t1 n wx (unhide HW6).at_ (by have := (unhide HT1).2.1; omega)
    rw [unhide HB1] at htk
    have HTK := hide htk
    clear htk
    go_wp2_with fail
    refine (unhide HTK).mono ?_
    rintro e w7 ⟨rfl, t2, hw2, hl2, ht2, hv2⟩
    have HW7 := hide ((unhide HW6).went hw2)
    have H27 := hide ((unhide H26).went hw2)
    have HX7 := hide ((unhide HX6).went hw2)
    have HY7 := hide ((unhide HY6).went hw2)
    have HN7 := hide ((unhide HN6).went hw2)
    have HB2 := hide (hw2.sb.trans (unhide HB1))
    have HT2 := hide (And.intro (hl2.trans (unhide HT1).1) (And.intro (show t2.tm = n by rw [ht2, (unhide HT1).2.1]; omega) (show t2.lv = fallV (entries p) n (putV (putV [] (1, orgW 1, []) (lx.burst * 1000000000)) (1, orgW 1, tenW 0) (lx.burst * 1000000000)) by rw [hv2, (unhide HT1).1, (unhide HT1).2.2])))
    clear hw2 hl2 ht2 hv2 HW6 H26 HX6 HY6 HN6 HB1 HT1 HTK HV6
    go_wp2_with (first
      | (refine wpList_load_mid rfl 32 (.tmp 10) rfl w2.heap.size 0 rfl ds _ (unhide H27).range Tryz.underlying32 rfl ?_ ?_; (rw [hlen2]; exact plan_size)))
    refine ((unhide HG).canonical _).mono ?_
    rintro e w8 ⟨rfl, hb8⟩
    have HW8 := hide ((unhide HW7).step hb8)
    have H28 := hide ((unhide H27).below hb8)
    have HX8 := hide ((unhide HX7).below hb8)
    have HY8 := hide ((unhide HY7).below hb8)
    have HN8 := hide ((unhide HN7).below hb8)
    have hrl := st_reload t2 (upD q 2 ++ [120, 10]) w8 (unhide HW8).at_ (unhide HW8).env
    obtain ⟨TU, hTU, hcat⟩ := cat_ex T ⟨#[120, 10]⟩ (upD q 2) [120, 10] (unhide HTE).symm rfl (by have := plan_len (unhide HQ); rw [← plan_flat (unhide HQ)] at this; simp; omega)
    rw [unhide HB2, read_x (unhide HQ), ← hTU] at hrl
    have HRL := hide hrl
    have hef := ent_four (unhide HQ)
    have hel := ent_len q
    generalize (entries q).length = EN at *
    have h4 : (4 : Int) < (EN : Int) + 1 := by omega
    clear hb8 HW7 H27 HX7 HY7 HN7 hrl hTU
    go_wp2_with fail
    refine (unhide HRL).mono ?_
    rintro e w9 ⟨rfl, t3, hw3, hl3, ht3, hv3⟩
    have HW9 := hide ((unhide HW8).went hw3)
    have H29 := hide ((unhide H28).went hw3)
    have HX9 := hide ((unhide HX8).went hw3)
    have HY9 := hide ((unhide HY8).went hw3)
    have HN9 := hide ((unhide HN8).went hw3)
    have HB3 := hide (hw3.sb.trans (unhide HB2))
    have HT3 := hide (And.intro (ht3.trans (unhide HT2).2.1) (hv3.trans (unhide HT2).2.2))
    clear hw3 hl3 ht3 hv3 HW8 H28 HX8 HY8 HN8 HB2 HT2 HRL hcat
    go_wp2_with (first
      | (refine wpList_load_mid rfl 32 (.tmp 10) rfl w2.heap.size 0 rfl ds _ (unhide H29).range Tryz.underlying32 rfl ?_ ?_; (rw [hlen2]; exact plan_size)))
    refine ((unhide HG).canonical _).mono ?_
    rintro e w10 ⟨rfl, hb10⟩
    have HW10 := hide ((unhide HW9).step hb10)
    have H210 := hide ((unhide H29).below hb10)
    have HX10 := hide ((unhide HX9).below hb10)
    have HY10 := hide ((unhide HY9).below hb10)
    have HN10 := hide ((unhide HN9).below hb10)
    have hrl := st_reload t3 (upD q 2) w10 (unhide HW10).at_ (unhide HW10).env
    rw [unhide HB3, read_canon (unhide HQ), unhide HTE] at hrl
    have HRL := hide hrl
    clear hb10 HW9 H29 HX9 HY9 HN9 hrl
    go_wp2_with fail
    refine (unhide HRL).mono ?_
    rintro e w11 ⟨rfl, t4, hw4, hl4, ht4, hv4⟩
    have HW11 := hide ((unhide HW10).went hw4)
    have H211 := hide ((unhide H210).went hw4)
    have HX11 := hide ((unhide HX10).went hw4)
    have HY11 := hide ((unhide HY10).went hw4)
    have HN11 := hide ((unhide HN10).went hw4)
    have HB4 := hide (hw4.sb.trans (unhide HB3))
    have HT4 := hide (And.intro (show t4.l = entries q from hl4) (And.intro (ht4.trans (unhide HT3).1) (hv4.trans (unhide HT3).2)))
    have htk := st_tick_ok t4 m w11 (unhide HW11).at_ (by have := (unhide HT4).2.1; omega)
    rw [unhide HB4] at htk
    have HTK := hide htk
    clear htk hw4 hl4 ht4 hv4 HW10 H210 HX10 HY10 HN10 HB3 HT3 HRL
    go_wp2_with fail
    refine (unhide HTK).mono ?_
    rintro e w12 ⟨rfl, t5, hw5, hl5, ht5, hv5⟩
    have HW12 := hide ((unhide HW11).went hw5)
    have H212 := hide ((unhide H211).went hw5)
    have HX12 := hide ((unhide HX11).went hw5)
    have HY12 := hide ((unhide HY11).went hw5)
    have HN12 := hide ((unhide HN11).went hw5)
    have HB5 := hide (hw5.sb.trans (unhide HB4))
    have hq5 : t5.l = entries q := hl5.trans (unhide HT4).1
    have hlev : levOf t5.lv (1, orgW 1, tenW 0) = lx.burst * 1000000000 - n * lx.rate - m * ly.rate := by
      rw [hv5, (unhide HT4).1, (unhide HT4).2.2, reload_level p q (unhide HP) (unhide HQ) _ n m hC0 hC1, ← unhide HX, ← unhide HY]
    have hlv := st_level t5 (Sl.classW 1) (orgW 1) (tenW 0) w12 (unhide HW12).at_
    rw [unhide HB5, levelA_ten _ 1 1 0 (by omega), hlev] at hlv
    obtain ⟨N1, hN1⟩ : ∃ x, x = n * lx.rate := ⟨_, rfl⟩
    obtain ⟨M1, hM1⟩ : ∃ x, x = m * ly.rate := ⟨_, rfl⟩
    have eN : (n : Int) * (lx.rate : Int) = (N1 : Int) := by rw [hN1]; simp
    have eM : (m : Int) * (ly.rate : Int) = (M1 : Int) := by rw [hM1]; simp
    have bN : N1 ≤ 2500000000 := by rw [hN1]; exact Nat.le_trans (Nat.mul_le_mul (Nat.le_of_lt hn) okx.1.2) (by omega)
    have bM : M1 ≤ 2500000000 := by rw [hM1]; exact Nat.le_trans (Nat.mul_le_mul (Nat.le_of_lt hm) oky.1.2) (by omega)
    rw [← hN1, ← hM1] at hlv
    obtain ⟨L, hL⟩ : ∃ x, x = lx.burst * 1000000000 - N1 - M1 := ⟨_, rfl⟩
    rw [← hL] at hlv
    have HLV := hide hlv; have HQ5 := hide hq5
    clear hw5 hl5 ht5 hv5 hlev hlv hN1 hM1 hq5 HW11 H211 HX11 HY11 HN11 HB4 HT4 HTK
    go_wp2_with (go_at_call 24; refine (org_any 1 _ (by omega)).mono ?_; rintro e wx ⟨rfl, rfl⟩)
    refine (unhide HLV).mono ?_
    rintro e w13 ⟨rfl, hw6⟩
    have HW13 := hide ((unhide HW12).went hw6)
    have H213 := hide ((unhide H212).went hw6)
    have hx13 := (unhide HX12).went hw6
    have hy13 := (unhide HY12).went hw6
    have HN13 := hide ((unhide HN12).went hw6)
    have x0 := hx13.at_ 0 _ rfl
    have y0 := hy13.at_ 0 _ rfl
    have hlim := st_limits t5 w13 (unhide HW13).at_ (unhide HW13).env
    rw [unhide HB5, unhide HQ5, (holds_self q).text (unhide HQ), unhide HTE] at hlim
    have HLIM := hide hlim
    clear hw6 hx13 hy13 hlim HW12 H212 HX12 HY12 HN12 HLV
    by_cases qa : (lx.burst : Int) * 1000000000 - (N1 : Int) < 0
    · have hL0 : L = 0 := by omega
      subst hL0
      clear hL
      by_cases qb : (0 : Int) - (M1 : Int) < 0
      · go_wp2_with fail
        refine (unhide HLIM).mono ?_
        rintro e w14 ⟨rfl, hw7⟩
        have hn14 := (unhide HN13).went hw7
        have h214 := (unhide H213).went hw7
        have HW14 := hide ((unhide HW13).went hw7)
        have n0 := hn14.at_ 0 _ rfl
        have H214 := hide h214
        clear hw7 hn14 h214 x0 y0
        go_wp2_with (refine wpList_load_guarded (by rfl) 32 (.tmp 10) rfl w2.heap.size 0 rfl ds _ (unhide H214).range Tryz.underlying32 rfl ?_ ?_; (rw [hlen2]; exact plan_size))
        refine ((unhide HG).canonical _).mono ?_
        rintro e w15 ⟨rfl, hb15⟩
        have HB15 := hide hb15
        clear hb15
        go_wp2
        go_ret
        exact ⟨rfl, ((unhide HW14).step (unhide HB15)).below⟩
      · have hM0 : M1 = 0 := by omega
        subst hM0
        go_wp2_with fail
        refine (unhide HLIM).mono ?_
        rintro e w14 ⟨rfl, hw7⟩
        have hn14 := (unhide HN13).went hw7
        have h214 := (unhide H213).went hw7
        have HW14 := hide ((unhide HW13).went hw7)
        have n0 := hn14.at_ 0 _ rfl
        have H214 := hide h214
        clear hw7 hn14 h214 x0 y0
        go_wp2_with (refine wpList_load_guarded (by rfl) 32 (.tmp 10) rfl w2.heap.size 0 rfl ds _ (unhide H214).range Tryz.underlying32 rfl ?_ ?_; (rw [hlen2]; exact plan_size))
        refine ((unhide HG).canonical _).mono ?_
        rintro e w15 ⟨rfl, hb15⟩
        have HB15 := hide hb15
        clear hb15
        go_wp2
        go_ret
        exact ⟨rfl, ((unhide HW14).step (unhide HB15)).below⟩
    · by_cases qb : (lx.burst : Int) * 1000000000 - (N1 : Int) - (M1 : Int) < 0
      · have hL0 : L = 0 := by omega
        subst hL0
        clear hL
        go_wp2_with fail
        refine (unhide HLIM).mono ?_
        rintro e w14 ⟨rfl, hw7⟩
        have hn14 := (unhide HN13).went hw7
        have h214 := (unhide H213).went hw7
        have HW14 := hide ((unhide HW13).went hw7)
        have n0 := hn14.at_ 0 _ rfl
        have H214 := hide h214
        clear hw7 hn14 h214 x0 y0
        go_wp2_with (refine wpList_load_guarded (by rfl) 32 (.tmp 10) rfl w2.heap.size 0 rfl ds _ (unhide H214).range Tryz.underlying32 rfl ?_ ?_; (rw [hlen2]; exact plan_size))
        refine ((unhide HG).canonical _).mono ?_
        rintro e w15 ⟨rfl, hb15⟩
        have HB15 := hide hb15
        clear hb15
        go_wp2
        go_ret
        exact ⟨rfl, ((unhide HW14).step (unhide HB15)).below⟩
      · have hLI : (L : Int) = (lx.burst : Int) * 1000000000 - (N1 : Int) - (M1 : Int) := by omega
        clear hL
        go_wp2_with fail
        refine (unhide HLIM).mono ?_
        rintro e w14 ⟨rfl, hw7⟩
        have hn14 := (unhide HN13).went hw7
        have h214 := (unhide H213).went hw7
        have HW14 := hide ((unhide HW13).went hw7)
        have n0 := hn14.at_ 0 _ rfl
        have H214 := hide h214
        clear hw7 hn14 h214 x0 y0
        go_wp2_with (refine wpList_load_guarded (by rfl) 32 (.tmp 10) rfl w2.heap.size 0 rfl ds _ (unhide H214).range Tryz.underlying32 rfl ?_ ?_; (rw [hlen2]; exact plan_size))
        refine ((unhide HG).canonical _).mono ?_
        rintro e w15 ⟨rfl, hb15⟩
        have HB15 := hide hb15
        clear hb15
        go_wp2
        go_ret
        exact ⟨rfl, ((unhide HW14).step (unhide HB15)).below⟩

end Go.Proofs.YthmhfilkgggagaaGreatDoor

/-
  Apart: the walk.
-/
import Derived.Test.YthmhfilkgggagaaGreatDoorAp
namespace Go.Proofs.YthmhfilkgggagaaGreatDoor
open Go.RowKit Go.Maps Go.Sort

theorem Way.held {w0 : World} {s : St} {W : World} (h : Way w0 s W) : s.At W := h.at_

/-- Which of the buckets are not empty behind the first request. -/
theorem lev_ten (c o t u v x : Nat) (ho : o < 2) (ht : t < 2) (hv : v < 2) (hx : x < 2) : levOf [((c, orgW o, []), 1000000000), ((c, orgW o, tenW t), 1000000000)] (u, orgW v, tenW x) = if u = c ∧ v = o ∧ x = t then 1000000000 else 0 := by
  rw [levOf_two]
  by_cases h : u = c ∧ v = o ∧ x = t
  · obtain ⟨rfl, rfl, rfl⟩ := h; simp
  · rw [if_neg h, if_neg]
    rintro (e | e)
    · exact tenW_ne x (by simpa using congrArg (·.2.2) e)
    · refine h ⟨congrArg (·.1) e, orgW_inj hv ho (congrArg (·.2.1) e), tenW_inj hx ht (congrArg (·.2.2) e)⟩

theorem lev_org (c o t u v : Nat) (ho : o < 2) (hv : v < 2) : levOf [((c, orgW o, []), 1000000000), ((c, orgW o, tenW t), 1000000000)] (u, orgW v, []) = if u = c ∧ v = o then 1000000000 else 0 := by
  rw [levOf_two]
  by_cases h : u = c ∧ v = o
  · obtain ⟨rfl, rfl⟩ := h; simp
  · rw [if_neg h, if_neg]
    rintro (e | e)
    · exact h ⟨congrArg (·.1) e, orgW_inj hv ho (congrArg (·.2.1) e)⟩
    · exact tenW_ne t (by simpa using (congrArg (·.2.2) e).symm)

set_option maxRecDepth 100000 in
set_option maxHeartbeats 40000000 in
theorem apart_any (cp : Option Addr) (cn cc : Nat) (ci oi ti : Int) (w : World) (hE : Env w) (hci : -9223372036854775808 ≤ ci ∧ ci ≤ 9223372036854775807) (hoi : -9223372036854775808 ≤ oi ∧ oi ≤ 9223372036854775807) (hti : -9223372036854775808 ≤ ti ∧ ti ≤ 9223372036854775807)
    (hn : cn ≤ 281474976710656) (hcode : 0 < cn → ∃ a, cp = some a ∧ a.block < w.heap.size ∧ ∀ i, i < cn → ∃ x : Int, w.cell? (a.add i) = some (.int .i64 x) ∧ -9223372036854775808 ≤ x ∧ x ≤ 9223372036854775807) :
    Calls Tryz.prog 10 #[.slice cp cn cc, .int .i64 ci, .int .i64 oi, .int .i64 ti] w fun e w' => e = .returned (.bool true) ∧ Below w.heap.size w w' := by
  have hd0 := dice_laid (Below.refl w.heap.size w) cp cn cc hn hcode
  have hpl := hide (planned_any w.heap.size w.heap.size _ hd0)
  have hz := hE.size
  have HE := hide hE
  clear hd0 hcode hE
  go_enter Tryz.func10, Tryz.ntmps10
  go_wp2_with fail
  refine (unhide hpl).mono ?_
  rintro e w1 ⟨hd1, hg1, p, hp, rfl⟩
  have hb1 : Below w.heap.size w w1 := plan_taken hg1
  obtain ⟨wz, hst, hbz, hrz, hzz⟩ := plan_laid p w1
  have hbz0 := hb1.trans (hbz.mono hb1.size)
  have hfn := plan_f p hp
  have hEz := ((unhide HE).below hb1 hz).below hbz (Nat.le_trans hz hb1.size)
  obtain ⟨cs, hcs⟩ : ∃ cs : List Value, pc p = cs.toArray := ⟨(pc p).toList, rfl⟩
  rw [hcs] at hst hfn hrz ⊢
  simp only [] at hst hfn hrz
  have HP := hide hp; have HF := hide hfn; have HR := hide hrz; have HBZ := hide hbz0; have HEZ := hide hEz
  have hlen : cs.length = 32 := hfn.len
  have hs1 := hb1.size
  have hz1 : w1.heap.size < wz.heap.size := by omega
  have hs0 : w.heap.size ≤ wz.heap.size := by omega
  clear hzz hp hd1 hg1 hb1 hbz hrz hpl hcs hfn hbz0 hEz HE
  go_wp2_with (first
    | (refine wpList_load_mid rfl 32 (.tmp 9) rfl w1.heap.size 0 rfl cs _ (unhide HR) Tryz.underlying32 rfl ?_ ?_; (rw [hlen]; exact plan_size)))
  refine ((unhide HF).made wz (unhide HEZ)).mono ?_
  rintro e w3 ⟨s, rfl, hat, hb3, hft, hsl, hst0, hsv⟩
  have H1 := hide (Held.of_range (s := s) (Below.range hb3 (by omega) (unhide HR)) (Nat.lt_of_lt_of_le (by omega) hb3.size) (fun hk => by have := hft _ hk; omega))
  have HW : Hid (Way w s w3) := hide ⟨hat, (unhide HEZ).below hb3 (by omega), (unhide HBZ).trans (hb3.mono hs0), hz, fun k hk => Nat.le_trans hs0 (hft k hk)⟩
  have HS := hide (And.intro hsl (And.intro hst0 hsv))
  clear hat hb3 hft hsl hst0 hsv HR HBZ HEZ hst
  go_wp2_with fail
  refine (pick_any ci 2 _ hci.1 hci.2 (by omega) (by omega)).mono ?_
  rintro e w7 ⟨rfl, c, hc, rfl⟩
  go_wp2_with fail
  refine (pick_any oi 2 _ hoi.1 hoi.2 (by omega) (by omega)).mono ?_
  rintro e w7 ⟨rfl, o, ho, rfl⟩
  go_wp2_with fail
  refine (pick_any ti 2 _ hti.1 hti.2 (by omega) (by omega)).mono ?_
  rintro e w7 ⟨rfl, t, ht, rfl⟩
  have hsw := st_sweep s w7 (unhide HW).at_
  rw [(unhide HS).2.2] at hsw
  have HSW := hide hsw
  clear hsw
  go_wp2_with fail
  refine (unhide HSW).mono ?_
  rintro e w8 ⟨rfl, hw0⟩
  have HW8 := hide ((unhide HW).went hw0)
  have H18 := hide ((unhide H1).went hw0)
  obtain ⟨hl1, hl2, hl3⟩ := unhide HS
  obtain ⟨lx, hlx⟩ : ∃ x, x = limTen p c o t := ⟨_, rfl⟩
  obtain ⟨la, hla⟩ : ∃ x, x = limOrg p c o := ⟨_, rfl⟩
  have okx : OkLim lx := by rw [hlx]; exact limTen_ok (unhide HP) c o t hc
  have oka : OkLim la := by rw [hla]; exact limOrg_ok (unhide HP) c o hc
  have hk1 : limK s.l (c, orgW o, []) = la := by rw [hl1, hla]; exact limK_org (holds_self p) (unhide HP) c o hc ho
  have hk2 : limK s.l (c, orgW o, tenW t) = lx := by rw [hl1, hlx]; exact limK_ten (holds_self p) (unhide HP) c o t hc ho ht
  have hadm := st_admit s (Sl.classW c) (orgW o) (tenW t) (1 : Nat) w8 (unhide HW8).at_
  rw [admA_plan s.l s.lv c o t 1 hc (by omega) (by omega), hl3, admit_first s.l (c, orgW o, tenW t) 1 (by show _ ≤ (limK s.l (c, orgW o, [])).burst; rw [hk1]; exact oka.2.1) (by rw [hk2]; exact okx.2.1) (by show 0 < (limK s.l (c, orgW o, [])).rate; rw [hk1]; exact oka.1.1) (by rw [hk2]; exact okx.1.1)] at hadm
  simp only [Nat.one_mul] at hadm
  rw [two_put _ _ (by intro e; exact tenW_ne t (congrArg (·.2.2) e))] at hadm
  have HADM := hide hadm
  have hdry := dry_two s.l (c, orgW o, []) (c, orgW o, tenW t) (if la.rate < lx.rate then la.rate else lx.rate) (by rw [hk1]; exact oka.1.1) (by rw [hk2]; exact okx.1.1) (by rw [hk1, hk2])
  have HDRY := hide hdry; have HX := hide hlx; have HLA := hide hla
  clear hadm hl1 hl2 hl3 hk1 hk2 hw0 HW H1 HSW hdry hlx hla
  go_wp2_with (first
    | (go_at_call 23; refine (class_any c _ hc).mono ?_; rintro e wx ⟨rfl, rfl⟩)
    | (go_at_call 24; refine (org_any o _ ho).mono ?_; rintro e wx ⟨rfl, rfl⟩)
    | (go_at_call 25; refine (tenant_any t _ ht).mono ?_; rintro e wx ⟨rfl, rfl⟩))
  refine (unhide HADM).mono ?_
  rintro e w6 ⟨rfl, t1, hw1, hl1, ht1, hv1⟩
  have hsb1 := hw1.sb
  have hW6 := (unhide HW8).went hw1
  have hN6 := Held.made hW6.at_ #[.int .i64 204, .int .i64 0, .int .i64 0] 61
  have hb6 := Below.alloc1 w6 (.cells #[.int .i64 204, .int .i64 0, .int .i64 0] 61)
  obtain ⟨V6, hV6⟩ : ∃ V, V = w6.alloc (.cells #[.int .i64 204, .int .i64 0, .int .i64 0] 61) := ⟨_, rfl⟩
  rw [← hV6] at hN6 hb6
  have HW6 := hide (hW6.step hb6)
  have H16 := hide (((unhide H18).went hw1).below hb6)
  have HN6 := hide hN6; have HV6 := hide hV6
  have HT1 := hide (And.intro hl1 (And.intro (ht1.trans (unhide HS).2.1) hv1))
  have HB1 := hide hsb1
  have hsw := st_sweep t1 V6 (unhide HW6).at_
  rw [hsb1, hv1] at hsw
  have HSW := hide hsw
  clear hw1 hl1 ht1 hv1 hW6 hN6 hb6 hV6 hsb1 HW8 H18 HADM hsw
  go_wp2_with fail
  rw [← unhide HV6]
  refine (unhide HSW).mono ?_
  rintro e w9 ⟨rfl, hw2⟩
  have HW9 := hide ((unhide HW6).went hw2)
  have H19 := hide ((unhide H16).went hw2)
  have HN9 := hide ((unhide HN6).went hw2)
  clear hw2 HW6 H16 HN6 HSW
  generalize hbN : w6.heap.size = NB at *
  clear hbN HV6
  go_wp2_with fail
  go_loopw [15] (fun v15 wr => ∃ i : Nat, i ≤ 8 ∧ v15 = .int .i64 i ∧ Way w t1 wr ∧ Held t1 wr w1.heap.size cs ∧ Held t1 wr NB [.int .i64 204, .int .i64 0, .int .i64 0]) (fun v15 _ => 8 - (intOf v15).toNat)
  case atStart => exact ⟨0, by omega, rfl, unhide HW9, unhide H19, unhide HN9⟩
  case round =>
    obtain ⟨i, hi, rfl, hway, h1r, hnr⟩ := hrel
    have HW2 := hide hway; have H12 := hide h1r; have HN2 := hide hnr
    clear hway h1r hnr HW9 H19 HN9
    by_cases hlt : i < 8
    · have hii : (i : Int) < 8 := by omega
      obtain ⟨u, hu⟩ : ∃ u, u = i % 2 := ⟨_, rfl⟩
      obtain ⟨j, hj⟩ : ∃ j, j = i / 2 := ⟨_, rfl⟩
      obtain ⟨v, hv⟩ : ∃ v, v = j % 2 := ⟨_, rfl⟩
      obtain ⟨x, hx⟩ : ∃ x, x = i / 4 := ⟨_, rfl⟩
      have eu : (i : Int) % 2 = (u : Int) := by omega
      have eu2 : (i : Int).tmod 2 = (u : Int) := by rw [Int.tmod_eq_emod_of_nonneg (by omega)]; exact eu
      have ej : (i : Int) / 2 = (j : Int) := by omega
      have ej2 : (i : Int).tdiv 2 = (j : Int) := by rw [Int.tdiv_eq_ediv_of_nonneg (by omega)]; exact ej
      have ev : (j : Int) % 2 = (v : Int) := by omega
      have ev2 : (j : Int).tmod 2 = (v : Int) := by rw [Int.tmod_eq_emod_of_nonneg (by omega)]; exact ev
      have ex : (i : Int) / 4 = (x : Int) := by omega
      have ex2 : (i : Int).tdiv 4 = (x : Int) := by rw [Int.tdiv_eq_ediv_of_nonneg (by omega)]; exact ex
      have hu2 : u < 2 := by omega
      have hv2 : v < 2 := by omega
      have hx2 : x < 2 := by omega
      have hjb : j ≤ 4 := by omega
      have hlv1 := st_level t1 (Sl.classW u) (orgW v) (tenW x) wr (unhide HW2).at_
      rw [unhide HB1, levelA_ten _ u v x hu2, (unhide HT1).2.2, lev_ten c o t u v x ho ht hv2 hx2] at hlv1
      have hlv2 := fun W (h : t1.At W) => st_level t1 (Sl.classW u) (orgW v) [] W h
      rw [unhide HB1, levelA_org _ u v hu2, (unhide HT1).2.2, lev_org c o t u v ho hv2] at hlv2
      clear hu hj hv hx
      by_cases qu : u = c
      · by_cases qv : v = o
        · by_cases qx : x = t
          · rw [if_pos ⟨qu, qv, qx⟩] at hlv1
            rw [if_pos ⟨qu, qv⟩] at hlv2
            have HL1 := hide hlv1; have HL2 := hide hlv2
            subst qu; subst qv; subst qx
            clear hlv1 hlv2
            go_wp2_with (first
              | (go_at_call 23; refine (class_any u _ hu2).mono ?_; rintro e wx ⟨rfl, rfl⟩)
              | (go_at_call 24; refine (org_any v _ hv2).mono ?_; rintro e wx ⟨rfl, rfl⟩)
              | (go_at_call 25; refine (tenant_any x _ hx2).mono ?_; rintro e wx ⟨rfl, rfl⟩))
            refine (unhide HL1).mono ?_
            rintro e wa ⟨rfl, hwa⟩
            have HWa := hide ((unhide HW2).went hwa)
            have H1a := hide ((unhide H12).went hwa)
            have HNa := hide ((unhide HN2).went hwa)
            clear hwa HW2 H12 HN2
            go_wp2_with (first
              | (go_at_call 23; refine (class_any u _ hu2).mono ?_; rintro e wx ⟨rfl, rfl⟩)
              | (go_at_call 24; refine (org_any v _ hv2).mono ?_; rintro e wx ⟨rfl, rfl⟩))
            refine (unhide HL2 _ (unhide HWa).at_).mono ?_
            rintro e wb ⟨rfl, hwb⟩
            have HWb := hide ((unhide HWa).went hwb)
            have H1b := hide ((unhide H1a).went hwb)
            have HNb := hide ((unhide HNa).went hwb)
            clear hwb HWa H1a HNa
            go_wp2
            go_roundw
            case rel => exact ⟨i + 1, by omega, by go_num, unhide HWb, unhide H1b, unhide HNb⟩
            case measure => simp [intOf]; omega
          · rw [if_neg (fun h => qx h.2.2)] at hlv1
            rw [if_pos ⟨qu, qv⟩] at hlv2
            have HL1 := hide hlv1; have HL2 := hide hlv2
            subst qu; subst qv
            have qi : ¬ (x : Int) = (t : Int) := by omega
            clear hlv1 hlv2
            go_wp2_with (first
              | (go_at_call 23; refine (class_any u _ hu2).mono ?_; rintro e wx ⟨rfl, rfl⟩)
              | (go_at_call 24; refine (org_any v _ hv2).mono ?_; rintro e wx ⟨rfl, rfl⟩)
              | (go_at_call 25; refine (tenant_any x _ hx2).mono ?_; rintro e wx ⟨rfl, rfl⟩))
            refine (unhide HL1).mono ?_
            rintro e wa ⟨rfl, hwa⟩
            have HWa := hide ((unhide HW2).went hwa)
            have H1a := hide ((unhide H12).went hwa)
            have HNa := hide ((unhide HN2).went hwa)
            clear hwa HW2 H12 HN2
            go_wp2_with (first
              | (go_at_call 23; refine (class_any u _ hu2).mono ?_; rintro e wx ⟨rfl, rfl⟩)
              | (go_at_call 24; refine (org_any v _ hv2).mono ?_; rintro e wx ⟨rfl, rfl⟩))
            refine (unhide HL2 _ (unhide HWa).at_).mono ?_
            rintro e wb ⟨rfl, hwb⟩
            have HWb := hide ((unhide HWa).went hwb)
            have H1b := hide ((unhide H1a).went hwb)
            have HNb := hide ((unhide HNa).went hwb)
            clear hwb HWa H1a HNa
            go_wp2
            go_roundw
            case rel => exact ⟨i + 1, by omega, by go_num, unhide HWb, unhide H1b, unhide HNb⟩
            case measure => simp [intOf]; omega
        · rw [if_neg (fun h => qv h.2.1)] at hlv1
          rw [if_neg (fun h => qv h.2)] at hlv2
          have HL1 := hide hlv1; have HL2 := hide hlv2
          subst qu
          have qi : ¬ (v : Int) = (o : Int) := by omega
          clear hlv1 hlv2
          go_wp2_with (first
            | (go_at_call 23; refine (class_any u _ hu2).mono ?_; rintro e wx ⟨rfl, rfl⟩)
            | (go_at_call 24; refine (org_any v _ hv2).mono ?_; rintro e wx ⟨rfl, rfl⟩)
            | (go_at_call 25; refine (tenant_any x _ hx2).mono ?_; rintro e wx ⟨rfl, rfl⟩))
          refine (unhide HL1).mono ?_
          rintro e wa ⟨rfl, hwa⟩
          have HWa := hide ((unhide HW2).went hwa)
          have H1a := hide ((unhide H12).went hwa)
          have HNa := hide ((unhide HN2).went hwa)
          clear hwa HW2 H12 HN2
          go_wp2_with (first
            | (go_at_call 23; refine (class_any u _ hu2).mono ?_; rintro e wx ⟨rfl, rfl⟩)
            | (go_at_call 24; refine (org_any v _ hv2).mono ?_; rintro e wx ⟨rfl, rfl⟩))
          refine (unhide HL2 _ (unhide HWa).at_).mono ?_
          rintro e wb ⟨rfl, hwb⟩
          have HWb := hide ((unhide HWa).went hwb)
          have H1b := hide ((unhide H1a).went hwb)
          have HNb := hide ((unhide HNa).went hwb)
          clear hwb HWa H1a HNa
          go_wp2
          go_roundw
          case rel => exact ⟨i + 1, by omega, by go_num, unhide HWb, unhide H1b, unhide HNb⟩
          case measure => simp [intOf]; omega
      · rw [if_neg (fun h => qu h.1)] at hlv1
        rw [if_neg (fun h => qu h.1)] at hlv2
        have HL1 := hide hlv1; have HL2 := hide hlv2
        have qi : ¬ (u : Int) = (c : Int) := by omega
        clear hlv1 hlv2
        go_wp2_with (first
          | (go_at_call 23; refine (class_any u _ hu2).mono ?_; rintro e wx ⟨rfl, rfl⟩)
          | (go_at_call 24; refine (org_any v _ hv2).mono ?_; rintro e wx ⟨rfl, rfl⟩)
          | (go_at_call 25; refine (tenant_any x _ hx2).mono ?_; rintro e wx ⟨rfl, rfl⟩))
        refine (unhide HL1).mono ?_
        rintro e wa ⟨rfl, hwa⟩
        have HWa := hide ((unhide HW2).went hwa)
        have H1a := hide ((unhide H12).went hwa)
        have HNa := hide ((unhide HN2).went hwa)
        clear hwa HW2 H12 HN2
        go_wp2_with (first
          | (go_at_call 23; refine (class_any u _ hu2).mono ?_; rintro e wx ⟨rfl, rfl⟩)
          | (go_at_call 24; refine (org_any v _ hv2).mono ?_; rintro e wx ⟨rfl, rfl⟩))
        refine (unhide HL2 _ (unhide HWa).at_).mono ?_
        rintro e wb ⟨rfl, hwb⟩
        have HWb := hide ((unhide HWa).went hwb)
        have H1b := hide ((unhide H1a).went hwb)
        have HNb := hide ((unhide HNa).went hwb)
        clear hwb HWa H1a HNa
        go_wp2
        go_roundw
        case rel => exact ⟨i + 1, by omega, by go_num, unhide HWb, unhide H1b, unhide HNb⟩
        case measure => simp [intOf]; omega
    · have hii : ¬ (i : Int) < 8 := by omega
      have hie : i = 8 := by omega
      subst hie
      go_wp2_with (first
        | (refine wpList_load_mid rfl 32 (.tmp 9) rfl w1.heap.size 0 rfl cs _ (unhide H12).range Tryz.underlying32 rfl ?_ ?_; (rw [hlen]; exact plan_size)))
      refine ((unhide HF).limits c o t _ hc ho ht).mono ?_
      rintro e wa ⟨rfl, hba⟩
      rw [← unhide HX, ← unhide HLA]
      have hWa := (unhide HW2).step hba
      obtain ⟨hXa, hYa⟩ := Held.made2 hWa.at_ #[.int .i64 lx.rate, .int .i64 lx.burst] #[.int .i64 la.rate, .int .i64 la.burst] 27 27
      have hba' := (Below.alloc1 wa (.cells #[.int .i64 lx.rate, .int .i64 lx.burst] 27)).alloc (by simp) (.cells #[.int .i64 la.rate, .int .i64 la.burst] 27)
      have x0 := hXa.at_ 0 _ rfl
      have y0 := hYa.at_ 0 _ rfl
      obtain ⟨Va, hVa⟩ : ∃ V, V = (wa.alloc (.cells #[.int .i64 lx.rate, .int .i64 lx.burst] 27)).alloc (.cells #[.int .i64 la.rate, .int .i64 la.burst] 27) := ⟨_, rfl⟩
      rw [← hVa] at hba'
      have HWa := hide (hWa.step hba')
      have HNa := hide (((unhide HN2).below hba).below hba')
      have HVa := hide hVa
      have rx0 := okx.1.1; have rx1 := okx.1.2; have ra0 := oka.1.1; have ra1 := oka.1.2
      clear hba hba' hWa hXa hYa hVa HW2 H12 HN2
      by_cases hlr : la.rate < lx.rate
      · have q : (la.rate : Int) < (lx.rate : Int) := by omega
        have hdr := unhide HDRY
        rw [if_pos hlr] at hdr
        obtain ⟨K, hK⟩ : ∃ K, K = (1000000000 + la.rate - 1) / la.rate := ⟨_, rfl⟩
        have eK0 : (1000000000 : Int) + (la.rate : Int) - 1 = ((1000000000 + la.rate - 1 : Nat) : Int) := by omega
        have eK : ((1000000000 : Int) + (la.rate : Int) - 1) / (la.rate : Int) = (K : Int) := by rw [eK0, hK]; simp
        have eK2 : ((1000000000 : Int) + (la.rate : Int) - 1).tdiv (la.rate : Int) = (K : Int) := by rw [Int.tdiv_eq_ediv_of_nonneg (by omega)]; exact eK
        have hKb : K ≤ 1000000100 := by rw [hK]; exact Nat.le_trans (Nat.div_le_self _ _) (by omega)
        have hKp : 1 ≤ K := by
          rw [hK]
          exact (Nat.le_div_iff_mul_le (by omega)).2 (by omega)
        have hrz : ¬ ((la.rate : Int) = 0) := by omega
        have hry : ¬ (la.rate = 0) := by omega
        rw [← hK] at hdr
        obtain ⟨⟨hd1, hd2⟩, hd3⟩ := hdr
        obtain ⟨J, hJ⟩ : ∃ J, K = J + 1 := ⟨K - 1, by omega⟩
        have htk := st_tick_ok t1 J Va (unhide HWa).at_ (by have := (unhide HT1).2.1; omega)
        have e1 : K - 1 = J := by omega
        rw [e1] at hd1 hd2 hd3
        rw [unhide HB1, (unhide HT1).1, (unhide HT1).2.2] at htk
        have eJ : (K : Int) - 1 = (J : Int) := by omega
        have HTK := hide htk; have HD := hide (And.intro hd1 (And.intro hd2 hd3))
        clear htk hd1 hd2 hd3 hK eK0 e1 hJ
        go_wp2_with fail
        rw [← unhide HVa]
        refine (unhide HTK).mono ?_
        rintro e wb ⟨rfl, t2, hw2, hl2, ht2, hv2⟩
        have HWb := hide ((unhide HWa).went hw2)
        have HNb := hide ((unhide HNa).went hw2)
        have HB2 := hide (hw2.sb.trans (unhide HB1))
        have htm2 : t2.tm = J := by rw [ht2, (unhide HT1).2.1]; omega
        have hsw := st_sweep t2 wb (unhide HWb).at_
        obtain ⟨hd1, hd2, hd3⟩ := unhide HD
        rw [unhide HB2, hv2] at hsw
        generalize (fallV s.l J [((c, orgW o, []), 1000000000), ((c, orgW o, tenW t), 1000000000)]).length = LN at *
        have HSW := hide hsw; have HL2 := hide hl2; have HV2 := hide hv2; have HD3 := hide hd3
        clear hsw hw2 hl2 ht2 hv2 hd3 HWa HNa HTK x0 y0
        go_wp2_with fail
        refine (unhide HSW).mono ?_
        rintro e wc ⟨rfl, hw3⟩
        have HWc := hide ((unhide HWb).went hw3)
        have HNc := hide ((unhide HNb).went hw3)
        have htk := st_tick_ok t2 1 wc (unhide HWc).at_ (by omega)
        rw [unhide HB2, unhide HL2, unhide HV2, unhide HD3] at htk
        have HTK := hide htk
        clear hw3 htk HWb HNb HSW
        go_wp2_with fail
        refine (unhide HTK).mono ?_
        rintro e wd ⟨rfl, t3, hw4, hl4, ht4, hv4⟩
        have HWd := hide ((unhide HWc).went hw4)
        have HNd := hide ((unhide HNc).went hw4)
        have hsw := st_sweep t3 wd (unhide HWd).at_
        rw [hw4.sb.trans (unhide HB2), hv4] at hsw
        have HSW := hide hsw
        clear hw4 hl4 ht4 hv4 hsw HWc HNc HTK
        go_wp2_with fail
        refine (unhide HSW).mono ?_
        rintro e we ⟨rfl, hw5⟩
        have HWe := hide ((unhide HWd).went hw5)
        have hne := (unhide HNd).went hw5
        have n0 := hne.at_ 0 _ rfl
        have n1 := hne.at_ 1 _ rfl
        have n2 := hne.at_ 2 _ rfl
        have q1 : (1 : Int) ≤ (LN : Int) := by omega
        have q2 : (LN : Int) ≤ 2 := by omega
        clear hw5 hne HWd HNd HSW hd1 hd2
        go_wp2
        go_ret
        exact ⟨rfl, (unhide HWe).below⟩
      · have q : ¬ (la.rate : Int) < (lx.rate : Int) := by omega
        have hdr := unhide HDRY
        rw [if_neg hlr] at hdr
        obtain ⟨K, hK⟩ : ∃ K, K = (1000000000 + lx.rate - 1) / lx.rate := ⟨_, rfl⟩
        have eK0 : (1000000000 : Int) + (lx.rate : Int) - 1 = ((1000000000 + lx.rate - 1 : Nat) : Int) := by omega
        have eK : ((1000000000 : Int) + (lx.rate : Int) - 1) / (lx.rate : Int) = (K : Int) := by rw [eK0, hK]; simp
        have eK2 : ((1000000000 : Int) + (lx.rate : Int) - 1).tdiv (lx.rate : Int) = (K : Int) := by rw [Int.tdiv_eq_ediv_of_nonneg (by omega)]; exact eK
        have hKb : K ≤ 1000000100 := by rw [hK]; exact Nat.le_trans (Nat.div_le_self _ _) (by omega)
        have hKp : 1 ≤ K := by
          rw [hK]
          exact (Nat.le_div_iff_mul_le (by omega)).2 (by omega)
        have hrz : ¬ ((lx.rate : Int) = 0) := by omega
        have hry : ¬ (lx.rate = 0) := by omega
        rw [← hK] at hdr
        obtain ⟨⟨hd1, hd2⟩, hd3⟩ := hdr
        obtain ⟨J, hJ⟩ : ∃ J, K = J + 1 := ⟨K - 1, by omega⟩
        have htk := st_tick_ok t1 J Va (unhide HWa).at_ (by have := (unhide HT1).2.1; omega)
        have e1 : K - 1 = J := by omega
        rw [e1] at hd1 hd2 hd3
        rw [unhide HB1, (unhide HT1).1, (unhide HT1).2.2] at htk
        have eJ : (K : Int) - 1 = (J : Int) := by omega
        have HTK := hide htk; have HD := hide (And.intro hd1 (And.intro hd2 hd3))
        clear htk hd1 hd2 hd3 hK eK0 e1 hJ
        go_wp2_with fail
        rw [← unhide HVa]
        refine (unhide HTK).mono ?_
        rintro e wb ⟨rfl, t2, hw2, hl2, ht2, hv2⟩
        have HWb := hide ((unhide HWa).went hw2)
        have HNb := hide ((unhide HNa).went hw2)
        have HB2 := hide (hw2.sb.trans (unhide HB1))
        have htm2 : t2.tm = J := by rw [ht2, (unhide HT1).2.1]; omega
        have hsw := st_sweep t2 wb (unhide HWb).at_
        obtain ⟨hd1, hd2, hd3⟩ := unhide HD
        rw [unhide HB2, hv2] at hsw
        generalize (fallV s.l J [((c, orgW o, []), 1000000000), ((c, orgW o, tenW t), 1000000000)]).length = LN at *
        have HSW := hide hsw; have HL2 := hide hl2; have HV2 := hide hv2; have HD3 := hide hd3
        clear hsw hw2 hl2 ht2 hv2 hd3 HWa HNa HTK x0 y0
        go_wp2_with fail
        refine (unhide HSW).mono ?_
        rintro e wc ⟨rfl, hw3⟩
        have HWc := hide ((unhide HWb).went hw3)
        have HNc := hide ((unhide HNb).went hw3)
        have htk := st_tick_ok t2 1 wc (unhide HWc).at_ (by omega)
        rw [unhide HB2, unhide HL2, unhide HV2, unhide HD3] at htk
        have HTK := hide htk
        clear hw3 htk HWb HNb HSW
        go_wp2_with fail
        refine (unhide HTK).mono ?_
        rintro e wd ⟨rfl, t3, hw4, hl4, ht4, hv4⟩
        have HWd := hide ((unhide HWc).went hw4)
        have HNd := hide ((unhide HNc).went hw4)
        have hsw := st_sweep t3 wd (unhide HWd).at_
        rw [hw4.sb.trans (unhide HB2), hv4] at hsw
        have HSW := hide hsw
        clear hw4 hl4 ht4 hv4 hsw HWc HNc HTK
        go_wp2_with fail
        refine (unhide HSW).mono ?_
        rintro e we ⟨rfl, hw5⟩
        have HWe := hide ((unhide HWd).went hw5)
        have hne := (unhide HNd).went hw5
        have n0 := hne.at_ 0 _ rfl
        have n1 := hne.at_ 1 _ rfl
        have n2 := hne.at_ 2 _ rfl
        have q1 : (1 : Int) ≤ (LN : Int) := by omega
        have q2 : (LN : Int) ≤ 2 := by omega
        clear hw5 hne HWd HNd HSW hd1 hd2
        go_wp2
        go_ret
        exact ⟨rfl, (unhide HWe).below⟩

end Go.Proofs.YthmhfilkgggagaaGreatDoor

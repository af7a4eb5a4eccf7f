/-
  Exact: blocks that are written, the dice beside the sluice, and what is plain of it.
  Exact: behind a 429.
-/
import Derived.Test.YthmhfilkgggagaaGreatDoorAp
import Derived.Test.YthmhfilkgggagaaGreatDoorLevB
namespace Go.Proofs.YthmhfilkgggagaaGreatDoor
open Go.RowKit Go.Maps Go.Sort

/-- A block of the caller's own. -/
structure Blk (s : St) (W : World) (b : Nat) (t : TypeId) (cs : Array Value) : Prop where
  at_ : W.heap[b]? = some (.cells cs t (0, 0))
  off : ¬ s.foot b

theorem Blk.lt {s : St} {W : World} {b : Nat} {t : TypeId} {cs : Array Value} (h : Blk s W b t cs) : b < W.heap.size := (Array.getElem?_eq_some_iff.1 h.at_).1
theorem Blk.cell {s : St} {W : World} {b : Nat} {t : TypeId} {cs : Array Value} (h : Blk s W b t cs) (i : Nat) (v : Value) (hv : cs[i]? = some v) : W.cell? ⟨b, i, none⟩ = some v := by
  simp only [World.cell?, h.at_]; exact hv
theorem Blk.live {s : St} {W : World} {b : Nat} {t : TypeId} {cs : Array Value} (h : Blk s W b t cs) (i : Nat) : W.frozen? ⟨b, i, none⟩ = false := by simp [World.frozen?, h.at_]
theorem Blk.made {s : St} {W : World} (h : s.At W) (cs : Array Value) (t : TypeId) : Blk s (W.alloc (.cells cs t)) W.heap.size t cs := ⟨(MapKept.heap_alloc W _).1, fun hk => by have := h.lt hk; omega⟩
theorem Blk.only {s : St} {S : Nat → Prop} {W W' : World} {b : Nat} {t : TypeId} {cs : Array Value} (h : Blk s W b t cs) (ho : Only S W W') (hn : ¬ S b) : Blk s W' b t cs := ⟨(ho.block b h.lt hn).trans h.at_, h.off⟩
theorem Blk.went {s s' : St} {W W' : World} {b : Nat} {t : TypeId} {cs : Array Value} (h : Blk s W b t cs) (hw : Went s s' W W') : Blk s' W' b t cs :=
  ⟨(hw.only.block b h.lt h.off).trans h.at_, fun hk => by
    rcases hw.foot b hk with h3 | h3
    · exact h.off h3
    · have := h.lt; omega⟩
theorem Blk.set {s : St} {W : World} {b : Nat} {t : TypeId} {cs : Array Value} (h : Blk s W b t cs) (i : Nat) (v : Value) : Blk s (W.setCell ⟨b, i, none⟩ v) b t (cs.setIfInBounds i v) := ⟨heap_setCell_at h.at_ i v, h.off⟩
theorem Blk.far {s : St} {W : World} {b c : Nat} {t : TypeId} {cs : Array Value} (h : Blk s W b t cs) (i : Nat) (v : Value) (hn : c ≠ b) : Blk s (W.setCell ⟨c, i, none⟩ v) b t cs :=
  h.only (Only.grown (S := fun k => k = c) (grown_set W c i v) (fun k e _ => by cases e; rfl)) (fun e => hn e.symm)

theorem Way.only {w0 : World} {s : St} {S : Nat → Prop} {W W' : World} (h : Way w0 s W) (ho : Only S W W') (hd : ∀ k, s.foot k → ¬ S k) (hl : ∀ k, S k → w0.heap.size ≤ k) : Way w0 s W' :=
  ⟨IsSl.of_only h.at_ ho hd, ho.env h.env (fun k hk => Nat.le_trans h.low (hl k hk)), ho.old h.below hl, h.low, h.foot⟩
theorem Way.set {w0 : World} {s : St} {W : World} (h : Way w0 s W) (b i : Nat) (v : Value) (hb : ¬ s.foot b) (hl : w0.heap.size ≤ b) : Way w0 s (W.setCell ⟨b, i, none⟩ v) :=
  h.only (Only.grown (S := fun k => k = b) (grown_set W b i v) (fun k e _ => by cases e; rfl)) (fun k hk e => by subst e; exact hb hk) (fun k e => by subst e; exact hl)

theorem Dice.only {S : Nat → Prop} {W W' : World} {db B : Nat} (h : Dice W db B) (ho : Only S W W') (h1 : ¬ S db) (h2 : ∀ k, S k → B ≤ k) : Dice W' db B :=
  h.kept ⟨ho.os, ho.tape, ho.output, ho.size, fun k hk => ho.block k (Nat.lt_trans (Nat.lt_of_lt_of_le hk h.low) h.lt) (fun hS => by have := h2 k hS; omega)⟩ (ho.block db h.lt h1)

/-- What goes along in Exact: the sluice, the dice, a request and an answer. -/
structure Ex (w0 : World) (t : St) (W : World) (db bb nb : Nat) (big ans : Array Value) : Prop where
  way : Way w0 t W
  dice : Dice W db w0.heap.size
  doff : ¬ t.foot db
  big : Blk t W bb 65 big
  ans : Blk t W nb 61 ans
  ne : db ≠ bb ∧ db ≠ nb ∧ bb ≠ nb
  low : w0.heap.size ≤ bb ∧ w0.heap.size ≤ nb

section
variable {w0 : World} {t t' : St} {W W' : World} {db bb nb : Nat} {big ans : Array Value}

theorem Ex.went (h : Ex w0 t W db bb nb big ans) (hw : Went t t' W W') : Ex w0 t' W' db bb nb big ans :=
  ⟨h.way.went hw, h.dice.only hw.only h.doff (fun k hk => h.way.foot k hk), fun hk => by
    rcases hw.foot db hk with h3 | h3
    · exact h.doff h3
    · have := h.dice.lt; omega, h.big.went hw, h.ans.went hw, h.ne, h.low⟩

theorem Ex.below (h : Ex w0 t W db bb nb big ans) (hb : Below W.heap.size W W') : Ex w0 t W' db bb nb big ans := h.went (Went.of_below h.way.at_ hb)

theorem Ex.rolled (h : Ex w0 t W db bb nb big ans) (hd : Dice W' db w0.heap.size) (hg : W.grownBy W' (some db)) : Ex w0 t W' db bb nb big ans := by
  have ho : Only (fun k => k = db) W W' := Only.grown hg (fun k e _ => by cases e; rfl)
  exact ⟨h.way.only ho (fun k hk e => by subst e; exact h.doff hk) (fun k e => by subst e; exact h.dice.low), hd, h.doff, h.big.only ho (fun e => h.ne.1 e.symm), h.ans.only ho (fun e => h.ne.2.1 e.symm), h.ne, h.low⟩

theorem Ex.setBig (h : Ex w0 t W db bb nb big ans) (i : Nat) (v : Value) : Ex w0 t (W.setCell ⟨bb, i, none⟩ v) db bb nb (big.setIfInBounds i v) ans :=
  ⟨h.way.set bb i v h.big.off h.low.1, h.dice.set h.low.1 h.ne.1 v, h.doff, h.big.set i v, h.ans.far i v h.ne.2.2, h.ne, h.low⟩

theorem Ex.setAns (h : Ex w0 t W db bb nb big ans) (i : Nat) (v : Value) : Ex w0 t (W.setCell ⟨nb, i, none⟩ v) db bb nb big (ans.setIfInBounds i v) :=
  ⟨h.way.set nb i v h.ans.off h.low.2, h.dice.set h.low.2 h.ne.2.1 v, h.doff, h.big.far i v (fun e => h.ne.2.2 e.symm), h.ans.set i v, h.ne, h.low⟩

theorem Ex.setAns3 (h : Ex w0 t W db bb nb big ans) (hz : ans.size = 3) (a b c : Value) : Ex w0 t (((W.setCell ⟨nb, 0, none⟩ a).setCell ⟨nb, 1, none⟩ b).setCell ⟨nb, 2, none⟩ c) db bb nb big #[a, b, c] := by
  have h3 := ((h.setAns 0 a).setAns 1 b).setAns 2 c
  have e : ((ans.setIfInBounds 0 a).setIfInBounds 1 b).setIfInBounds 2 c = #[a, b, c] := by
    match ans, hz with
    | ⟨[x, y, z]⟩, _ => rfl
  rw [e] at h3
  exact h3
end

/-- A wait is as much shorter as time has gone by. -/
theorem wait_less (L r B Q n : Nat) (hr : 0 < r) (hQ : Q ≤ B) : waitV (L - n * r) r B Q = waitV L r B Q - n := by
  unfold waitV
  obtain ⟨E, hE⟩ : ∃ E, E = L + Q * 1000000000 - B * 1000000000 := ⟨_, rfl⟩
  obtain ⟨X, hX⟩ : ∃ X, X = n * r := ⟨_, rfl⟩
  have e1 : L - n * r + Q * 1000000000 - B * 1000000000 = E - X := by rw [hE, hX]; omega
  rw [e1, ← hE]
  by_cases h : X ≤ E
  · have e2 : E + r - 1 = (E - X + r - 1) + n * r := by rw [← hX]; omega
    rw [e2, Nat.add_mul_div_right _ _ hr, Nat.add_sub_cancel]
  · have e3 : (E - X + r - 1) / r = 0 := by rw [Nat.div_eq_zero_iff]; right; omega
    have e4 : (E + r - 1) / r ≤ n := by
      rw [← Nat.lt_succ_iff, Nat.div_lt_iff_lt_mul hr, Nat.succ_mul, ← hX]
      omega
    rw [e3]
    omega

/-- What is decided where there is room, of a cost that is above neither burst. -/
theorem admit_roomy (l : List (Sl.Subj × Sl.Lim)) (lv : Lv) (k : Kb) (Q : Nat) (h1 : Q ≤ (limK l (k.1, k.2.1, [])).burst) (h2 : Q ≤ (limK l k).burst) (hn : lv.length ≤ 2) (M Y : Nat) (hY : Y = (M + 1000000000 - 1) / 1000000000)
    (hM : M = max (waitV (levOf lv (k.1, k.2.1, [])) (limK l (k.1, k.2.1, [])).rate (limK l (k.1, k.2.1, [])).burst Q) (waitV (levOf lv k) (limK l k).rate (limK l k).burst Q)) :
    (M = 0 → (admitS l lv k Q).1 = (204, 0, 0)) ∧ (0 < M → admitS l lv k Q = ((429, M, Y), lv)) := by
  unfold admitS
  rw [hY]
  rw [if_neg (by omega), emptyN_two, if_neg (by split <;> split <;> omega), ← hM]
  refine ⟨fun h => ?_, fun h => ?_⟩
  · rw [if_neg (by omega)]
  · rw [if_pos h]

theorem retry_eq (M b : Nat) (hb : 0 < b) : ((M : Int) + (b : Int) - 1) / (b : Int) = ((M + b - 1) / b : Nat) ∧ ((M : Int) + (b : Int) - 1).tdiv (b : Int) = ((M + b - 1) / b : Nat) := by
  have e : (M : Int) + (b : Int) - 1 = ((M + b - 1 : Nat) : Int) := by omega
  have e1 : ((M : Int) + (b : Int) - 1) / (b : Int) = ((M + b - 1) / b : Nat) := by rw [e]; exact (Int.natCast_ediv _ _).symm
  exact ⟨e1, by rw [Int.tdiv_eq_ediv_of_nonneg (by omega)]; exact e1⟩

theorem retry_one : 1 = (1 + 1000000000 - 1) / 1000000000 := by
  rw [Nat.add_sub_cancel_left]

/-- How long both must wait. -/
def waitB (l : List (Sl.Subj × Sl.Lim)) (lv : Lv) (k : Kb) (Q : Nat) : Nat := max (waitV (levOf lv (k.1, k.2.1, [])) (limK l (k.1, k.2.1, [])).rate (limK l (k.1, k.2.1, [])).burst Q) (waitV (levOf lv k) (limK l k).rate (limK l k).burst Q)

theorem wait_fall (l : List (Sl.Subj × Sl.Lim)) {lv : Lv} (hv : OkV lv) (k : Kb) (Q n : Nat) (h1 : Q ≤ (limK l (k.1, k.2.1, [])).burst) (h2 : Q ≤ (limK l k).burst) (r1 : 0 < (limK l (k.1, k.2.1, [])).rate) (r2 : 0 < (limK l k).rate) : waitB l (fallV l n lv) k Q = waitB l lv k Q - n := by
  unfold waitB
  rw [levOf_fall hv, levOf_fall hv, wait_less _ _ _ _ _ r1 h1, wait_less _ _ _ _ _ r2 h2]
  generalize waitV (levOf lv (k.1, k.2.1, [])) (limK l (k.1, k.2.1, [])).rate (limK l (k.1, k.2.1, [])).burst Q = a
  generalize waitV (levOf lv k) (limK l k).rate (limK l k).burst Q = b
  omega

theorem wait_bound (l : List (Sl.Subj × Sl.Lim)) (lv : Lv) (k : Kb) (Q X R : Nat) (h1 : Q ≤ (limK l (k.1, k.2.1, [])).burst) (h2 : Q ≤ (limK l k).burst) (r1 : (limK l (k.1, k.2.1, [])).rate ≤ R) (r2 : (limK l k).rate ≤ R) (l1 : levOf lv (k.1, k.2.1, []) ≤ X) (l2 : levOf lv k ≤ X) : waitB l lv k Q ≤ X + R := by
  unfold waitB waitV
  refine Nat.max_le.2 ⟨Nat.le_trans (Nat.div_le_self _ _) (by omega), Nat.le_trans (Nat.div_le_self _ _) (by omega)⟩

/-- A second request of the caller's own beside the first. -/
theorem Blk.alloc {s : St} {W : World} {b : Nat} {t : TypeId} {cs : Array Value} (h : Blk s W b t cs) (o : Obj) : Blk s (W.alloc o) b t cs := h.only (Only.below (S := fun _ => False) (Below.alloc1 W o)) (fun h => h)

end Go.Proofs.YthmhfilkgggagaaGreatDoor

namespace Go.Proofs.YthmhfilkgggagaaGreatDoor
open Go.RowKit Go.Maps Go.Sort

noncomputable def exTail : Code := codeTail 18 (Tryz.f9.body.getD .skip)

set_option maxRecDepth 100000 in
set_option maxHeartbeats 40000000 in
theorem exact_tail (u0 u1 u2 u3 u4 u5 u6 u8 u9 u10 u11 u13 u14 u15 u17 u18 u19 u20 u21 u22 u23 u24 u25 u26 u27 u28 u29 u30 u31 u32 u33 u34 u35 u36 u37 u38 u39 u40 u41 u42 u43 u44 u45 u46 u47 u48 u49 u50 u51 u52 u53 u54 u55 u56 u57 u58 u59 u60 u61 u62 u63 u64 u65 u66 u67 u68 u69 u70 u71 u72 u73 u74 u75 u76 u77 u78 u79 u80 u81 u82 u83 u84 u85 u86 u87 u88 u89 u90 u91 u92 u93 u94 u95 u96 u97 u98 u99 u100 u101 u102 u103 u104 u105 u106 u107 u108 u109 u110 u111 u112 u113 u114 u115 u116 u117 u118 u119 u120 u121 u122 u123 u124 u125 u126 u127 u128 u129 u130 u131 u132 u133 u134 u135 u136 u137 u138 u139 u140 u141 u142 u143 u144 u145 u146 u147 u148 u149 u150 u151 u152 u153 u154 u155 u156 u157 u158 u159 u160 u161 u162 u163 u164 u165 u166 u167 u168 u169 u170 : Value) (w wd : World) (t2 : St) (sb BB NB QB : Nat) (big : Array Value) (Q M RT : Nat) (hQ1 : 1 ≤ Q) (hQ30 : Q ≤ 30) (hMp : 0 < M) (hMb : M ≤ 30000000050) (eR2 : ((M : Int) + 1000000000 - 1).tdiv 1000000000 = (RT : Int)) (hRb : RT ≤ 40000000000)
    (hX : Ex w t2 wd w.heap.size BB NB big #[.int .i64 429, .int .i64 M, .int .i64 RT]) (hB : Blk t2 wd QB 65 #[.string ⟨#[105, 110, 103, 101, 115, 116]⟩, .string ⟨#[97, 99, 109, 101]⟩, .string ⟨(tenW 1).toArray⟩, .int .i64 Q]) (htsb : t2.sb = sb) (httm : t2.tm ≤ 300000000) (htlen : t2.lv.length ≤ 2)
    (hM : M = waitB t2.l t2.lv (0, orgW 0, tenW 1) Q) (d1 : Q ≤ (limK t2.l (((0, orgW 0, tenW 1) : Kb).1, ((0, orgW 0, tenW 1) : Kb).2.1, [])).burst) (d2 : Q ≤ (limK t2.l (0, orgW 0, tenW 1)).burst) (r1 : 0 < (limK t2.l (((0, orgW 0, tenW 1) : Kb).1, ((0, orgW 0, tenW 1) : Kb).2.1, [])).rate) (r2 : 0 < (limK t2.l (0, orgW 0, tenW 1)).rate) :
    Code.wp Tryz.prog exTail (bodyPost Tryz.prog Tryz.f9 fun e w' => e = .returned (.bool true) ∧ Below w.heap.size w w') ⟨#[u0, u1, u2, u3, u4, u5, u6, .pointer (some ⟨sb, 0, none⟩), u8, u9, u10, u11, .pointer (some ⟨NB, 0, none⟩), u13, u14, u15, .pointer (some ⟨QB, 0, none⟩), u17, u18, u19, u20, u21, u22, u23, u24, u25, u26, u27, u28, u29, u30, u31, u32, u33, u34, u35, u36, u37, u38, u39, u40, u41, u42, u43, u44, u45, u46, u47, u48, u49, u50, u51, u52, u53, u54, u55, u56, u57, u58, u59, u60, u61, u62, u63, u64, u65, u66, u67, u68, u69, u70, u71, u72, u73, u74, u75, u76, u77, u78, u79, u80, u81, u82, u83, u84, u85, u86, u87, u88, u89, u90, u91, u92, u93, u94, u95, u96, u97, u98, u99, u100, u101, u102, u103, u104, u105, u106, u107, u108, u109, u110, u111, u112, u113, u114, u115, u116, u117, u118, u119, u120, u121, u122, u123, u124, u125, u126, u127, u128, u129, u130, u131, u132, u133, u134, u135, u136, u137, u138, u139, u140, u141, u142, u143, u144, u145, u146, u147, u148, u149, u150, u151, u152, u153, u154, u155, u156, u157, u158, u159, u160, u161, u162, u163, u164, u165, u166, u167, u168, u169, u170], []⟩ wd := by
  conv => arg 2; whnf
  obtain ⟨J, hJ⟩ : ∃ J, M = J + 1 := ⟨M - 1, by omega⟩
  have eJ : (M : Int) - 1 = (J : Int) := by omega
  have hM1 : ¬ (M : Int) < 1 := by omega
  have hokv : OkV t2.lv := IsSl.core hX.way.at_ |>.ok
  have n0 := hX.ans.cell 0 _ rfl
  have n1 := hX.ans.cell 1 _ rfl
  have n2 := hX.ans.cell 2 _ rfl
  have htk := st_tick_ok t2 J wd hX.way.at_ (by omega)
  rw [htsb] at htk
  have HXe := hide hX; have HQe := hide hB; have HTK := hide htk; have HOK := hide hokv; have HM := hide hM; have HJ := hide hJ
  have HDD := hide (And.intro d1 (And.intro d2 (And.intro r1 r2)))
  have HT2 := hide (And.intro htsb httm)
  clear hX hB htk hokv hM hJ d1 d2 r1 r2 htsb
  go_wp2_with fail
  refine (unhide HTK).mono ?_
  rintro e we ⟨rfl, t3, hw3, hl3, ht3, hv3⟩
  have hXf := (unhide HXe).went hw3
  have hqf := (unhide HQe).went hw3
  have hl3' : t3.l = t2.l := hl3
  have hv3' : t3.lv = fallV t2.l J t2.lv := hv3
  have hok3 : OkV t3.lv := IsSl.core hXf.way.at_ |>.ok
  have hlen3 : t3.lv.length ≤ 2 := by rw [hv3']; exact Nat.le_trans (fallV_len _ _ _) htlen
  obtain ⟨d1, d2, r1, r2⟩ := unhide HDD
  have hM3 : (1 : Nat) = waitB t3.l t3.lv (0, orgW 0, tenW 1) Q := by
    rw [hl3', hv3', wait_fall t2.l (unhide HOK) (0, orgW 0, tenW 1) Q J d1 d2 r1 r2, ← unhide HM, unhide HJ]; omega
  have m3 := (admit_roomy t3.l t3.lv (0, orgW 0, tenW 1) Q (by rw [hl3']; exact d1) (by rw [hl3']; exact d2) hlen3 1 1 retry_one hM3).2 (by omega)
  have hadm := st_admit t3 (Sl.classW 0) (orgW 0) (tenW 1) (Q : Nat) we hXf.way.at_
  rw [admA_plan t3.l t3.lv 0 0 1 Q (by omega) hQ1 (by omega), hw3.sb.trans (unhide HT2).1, m3] at hadm
  simp only [] at hadm
  have q0 := hqf.cell 0 _ rfl
  have q1 := hqf.cell 1 _ rfl
  have q2 := hqf.cell 2 _ rfl
  have q3 := hqf.cell 3 _ rfl
  have HXf := hide hXf; have HQf := hide hqf; have HADM := hide hadm
  have HT3 := hide (And.intro (hw3.sb.trans (unhide HT2).1) (And.intro hl3' (And.intro (show t3.tm ≤ 40000000000 by rw [ht3]; have := (unhide HT2).2; have := unhide HJ; omega) (And.intro hv3' (And.intro hlen3 (And.intro hok3 hM3))))))
  clear hXf hqf hadm m3 hw3 hl3 ht3 hv3 hl3' hv3' hok3 hlen3 hM3 d1 d2 r1 r2 HXe HQe HTK HT2 n0 n1 n2 eR2
  go_wp2_with fail
  refine (unhide HADM).mono ?_
  rintro e wf ⟨rfl, t4, hw4, hl4, ht4, hv4⟩
  have hXg := (unhide HXf).went hw4
  have hqg := (unhide HQf).went hw4
  have hBr := Blk.made hXg.way.at_ #[.int .i64 429, .int .i64 1, .int .i64 1] 61
  have hbr := Below.alloc1 wf (.cells #[.int .i64 429, .int .i64 1, .int .i64 1] 61)
  have hXh := hXg.below hbr
  have hqh := hqg.alloc (.cells #[.int .i64 429, .int .i64 1, .int .i64 1] 61)
  have htk := st_tick_ok t4 1 _ hXh.way.at_ (by rw [ht4]; have := (unhide HT3).2.2.1; omega)
  rw [hw4.sb.trans (unhide HT3).1] at htk
  have HBr := hide hBr; have HXh := hide hXh; have HQh := hide hqh; have HTK := hide htk
  have HT4 := hide (And.intro (hw4.sb.trans (unhide HT3).1) (And.intro (hl4.trans (unhide HT3).2.1) (And.intro (show t4.lv = t3.lv from hv4) hl4)))
  clear hXg hqg hBr hbr hXh hqh htk hw4 hl4 ht4 hv4 HXf HQf HADM q0 q1 q2 q3
  go_wp2_with fail
  refine (unhide HTK).mono ?_
  rintro e wg ⟨rfl, t5, hw5, hl5, ht5, hv5⟩
  have hXi := (unhide HXh).went hw5
  have hqi2 := (unhide HQh).went hw5
  have hBi := (unhide HBr).went hw5
  have hl5' : t5.l = t2.l := hl5.trans (unhide HT4).2.1
  have hv5' : t5.lv = fallV t3.l 1 t3.lv := by rw [hv5, (unhide HT4).2.2.1, (unhide HT4).2.2.2]
  have hlen5 : t5.lv.length ≤ 2 := by rw [hv5']; exact Nat.le_trans (fallV_len _ _ _) (unhide HT3).2.2.2.2.1
  obtain ⟨d1, d2, r1, r2⟩ := unhide HDD
  have hl3' : t3.l = t2.l := (unhide HT3).2.1
  have hM5 : (0 : Nat) = waitB t5.l t5.lv (0, orgW 0, tenW 1) Q := by
    rw [hl5', hv5', ← hl3', wait_fall t3.l (unhide HT3).2.2.2.2.2.1 (0, orgW 0, tenW 1) Q 1 (by rw [hl3']; exact d1) (by rw [hl3']; exact d2) (by rw [hl3']; exact r1) (by rw [hl3']; exact r2), ← (unhide HT3).2.2.2.2.2.2]
  have m5 := (admit_roomy t5.l t5.lv (0, orgW 0, tenW 1) Q (by rw [hl5']; exact d1) (by rw [hl5']; exact d2) hlen5 0 _ rfl hM5).1 rfl
  have hadm := st_admit t5 (Sl.classW 0) (orgW 0) (tenW 1) (Q : Nat) wg hXi.way.at_
  rw [admA_plan t5.l t5.lv 0 0 1 Q (by omega) hQ1 (by omega), hw5.sb.trans (unhide HT4).1] at hadm
  simp only [] at hadm
  rw [m5] at hadm
  have q0 := hqi2.cell 0 _ rfl
  have q1 := hqi2.cell 1 _ rfl
  have q2 := hqi2.cell 2 _ rfl
  have q3 := hqi2.cell 3 _ rfl
  have HXi := hide hXi; have HBi := hide hBi; have HADM := hide hadm
  clear hXi hqi2 hBi hadm m5 hw5 hl5 ht5 hv5 hl5' hv5' hlen5 hM5 hl3' d1 d2 r1 r2 HXh HQh HBr HTK HT4 HT3
  go_wp2_with fail
  refine (unhide HADM).mono ?_
  rintro e wh ⟨rfl, t6, hw6, hl6, ht6, hv6⟩
  have hXj := (unhide HXi).went hw6
  have hBj := (unhide HBi).went hw6
  have p0 := hBj.cell 0 _ rfl
  have p1 := hBj.cell 1 _ rfl
  have p2 := hBj.cell 2 _ rfl
  have pl := hBj.lt
  have HXj := hide hXj
  clear hXj hBj hw6 hl6 ht6 hv6 HXi HBi HADM q0 q1 q2 q3
  go_wp2
  go_ret
  exact ⟨rfl, ((unhide HXj).below (Below.alloc1 _ _)).way.below⟩

end Go.Proofs.YthmhfilkgggagaaGreatDoor

/-
  The text of a plan, as it must be told.
-/
import Derived.Test.YthmhfilkgggagaaGreatDoorPlan
namespace Go.Proofs.YthmhfilkgggagaaGreatDoor
open Go.RowKit Go.Maps Go.Sort

def defOrgW : List UInt8 := [100, 101, 102, 97, 117, 108, 116, 32, 111, 114, 103]
def defTenW : List UInt8 := [100, 101, 102, 97, 117, 108, 116, 32, 116, 101, 110, 97, 110, 116]

def txA (p : Nat → Sl.Lim) (c : Nat) : List UInt8 := defOrgW ++ wordsT c (p c)
def txB (p : Nat → Sl.Lim) (c : Nat) : List UInt8 := defTenW ++ wordsT c (p (2 + c))
def txC (p : Nat → Sl.Lim) (o c : Nat) : List UInt8 := if 0 < (p (4 + 2 * o + c)).rate then [111, 114, 103, 32] ++ orgW o ++ wordsT c (p (4 + 2 * o + c)) else []
def txD (p : Nat → Sl.Lim) (o t c : Nat) : List UInt8 := if 0 < (p (8 + 4 * o + 2 * t + c)).rate then [116, 101, 110, 97, 110, 116, 32] ++ orgW o ++ [32] ++ tenW t ++ wordsT c (p (8 + 4 * o + 2 * t + c)) else []

/-- What has been written when so many rounds are over. -/
def upA (p : Nat → Sl.Lim) (c : Nat) : List UInt8 := (List.range c).flatMap (txA p)
def upB (p : Nat → Sl.Lim) (c : Nat) : List UInt8 := upA p 2 ++ (List.range c).flatMap (txB p)
def rowC (p : Nat → Sl.Lim) (o c : Nat) : List UInt8 := (List.range c).flatMap (txC p o)
def upC (p : Nat → Sl.Lim) (o : Nat) : List UInt8 := upB p 2 ++ (List.range o).flatMap (fun o => rowC p o 2)
def rowD (p : Nat → Sl.Lim) (o t c : Nat) : List UInt8 := (List.range c).flatMap (txD p o t)
def rowE (p : Nat → Sl.Lim) (o t : Nat) : List UInt8 := (List.range t).flatMap (fun t => rowD p o t 2)
def upD (p : Nat → Sl.Lim) (o : Nat) : List UInt8 := upC p 2 ++ (List.range o).flatMap (fun o => rowE p o 2)

theorem flat_snoc (f : Nat → List UInt8) (k : Nat) : (List.range (k + 1)).flatMap f = (List.range k).flatMap f ++ f k := by
  rw [List.range_succ]; simp

theorem flat_len (f : Nat → List UInt8) (m : Nat) (hf : ∀ i, (f i).length ≤ m) : ∀ k, ((List.range k).flatMap f).length ≤ k * m
  | 0 => by simp
  | k + 1 => by
    rw [flat_snoc, List.length_append]
    have h1 := flat_len f m hf k
    have h2 := hf k
    rw [Nat.succ_mul]; omega

/-- The limits are small. -/
def SmallP (p : Nat → Sl.Lim) : Prop := ∀ i, (p i).rate ≤ 50 ∧ (p i).burst ≤ 30

theorem OkP.small {k : Nat} {p : Nat → Sl.Lim} (h : OkP k p) : SmallP p := by
  intro i
  rcases h.2 i with h | h
  · exact ⟨h.1.2, h.2.2⟩
  · rw [h]; exact ⟨by show 0 ≤ 50; omega, by show 0 ≤ 30; omega⟩

theorem wordsT_len (c : Nat) (l : Sl.Lim) (h : l.rate ≤ 50 ∧ l.burst ≤ 30) : (wordsT c l).length ≤ 14 := by
  have l1 : (Lib.decDigits l.rate).length ≤ 2 := dec_len l.rate 1 (by omega)
  have l2 : (Lib.decDigits l.burst).length ≤ 2 := dec_len l.burst 1 (by omega)
  have l3 : (Sl.classW c).length ≤ 6 := by unfold Sl.classW; split <;> simp [Sl.ingestW, Sl.queryW]
  unfold wordsT; simp; omega

theorem orgW_len (o : Nat) : (orgW o).length ≤ 4 := by unfold orgW; split <;> simp
theorem tenW_len (o : Nat) : (tenW o).length ≤ 2 := by unfold tenW; split <;> simp

theorem txA_len {p : Nat → Sl.Lim} (h : SmallP p) (c : Nat) : (txA p c).length ≤ 40 := by
  have := wordsT_len c _ (h c); unfold txA; simp [defOrgW]; omega
theorem txB_len {p : Nat → Sl.Lim} (h : SmallP p) (c : Nat) : (txB p c).length ≤ 40 := by
  have := wordsT_len c _ (h (2 + c)); unfold txB; simp [defTenW]; omega
theorem txC_len {p : Nat → Sl.Lim} (h : SmallP p) (o c : Nat) : (txC p o c).length ≤ 40 := by
  have := wordsT_len c _ (h (4 + 2 * o + c)); have := orgW_len o; unfold txC; split <;> simp; omega
theorem txD_len {p : Nat → Sl.Lim} (h : SmallP p) (o t c : Nat) : (txD p o t c).length ≤ 40 := by
  have := wordsT_len c _ (h (8 + 4 * o + 2 * t + c)); have := orgW_len o; have := tenW_len t; unfold txD; split <;> simp; omega

theorem upA_len {p : Nat → Sl.Lim} (h : SmallP p) (c : Nat) : (upA p c).length ≤ c * 40 := flat_len _ _ (txA_len h) c
theorem upB_len {p : Nat → Sl.Lim} (h : SmallP p) (c : Nat) : (upB p c).length ≤ 80 + c * 40 := by
  have := upA_len h 2; have := flat_len _ _ (txB_len h) c; unfold upB; rw [List.length_append]; omega
theorem rowC_len {p : Nat → Sl.Lim} (h : SmallP p) (o c : Nat) : (rowC p o c).length ≤ c * 40 := flat_len _ _ (txC_len h o) c
theorem upC_len {p : Nat → Sl.Lim} (h : SmallP p) (o : Nat) : (upC p o).length ≤ 160 + o * 80 := by
  have := upB_len h 2; have := flat_len _ _ (fun o => rowC_len h o 2) o; unfold upC; rw [List.length_append]; omega
theorem rowD_len {p : Nat → Sl.Lim} (h : SmallP p) (o t c : Nat) : (rowD p o t c).length ≤ c * 40 := flat_len _ _ (txD_len h o t) c
theorem rowE_len {p : Nat → Sl.Lim} (h : SmallP p) (o t : Nat) : (rowE p o t).length ≤ t * 80 := flat_len _ _ (fun t => rowD_len h o t 2) t
theorem upD_len {p : Nat → Sl.Lim} (h : SmallP p) (o : Nat) : (upD p o).length ≤ 320 + o * 160 := by
  have := upC_len h 2; have := flat_len _ _ (fun o => rowE_len h o 2) o; unfold upD; rw [List.length_append]; omega

/-- The plan's box, and what lay below it. -/
structure Cn (w : World) (p : Nat → Sl.Lim) (W : World) : Prop where
  below : Below (w.heap.size + 1) (w.alloc (.cells (pc p) 32)) W

theorem Cn.plan {w : World} {p : Nat → Sl.Lim} {W : World} (h : Cn w p W) : PlanAt W w.heap.size p :=
  (h.below.block w.heap.size (by omega)).trans (MapKept.heap_alloc w _).1

theorem Cn.step {w : World} {p : Nat → Sl.Lim} {W W' : World} (h : Cn w p W) (hb : Below W.heap.size W W') : Cn w p W' :=
  ⟨h.below.trans (hb.mono (by have := h.below.size; simpa using this))⟩

theorem Cn.drew {w : World} {p : Nat → Sl.Lim} {W : World} (h : Cn w p W) : Cn w p W.drew := ⟨h.below.drew⟩

theorem Cn.two {w : World} {p : Nat → Sl.Lim} {W : World} (h : Cn w p W) {i off : Nat} (ho : off = 2 * i) (hi : i < 16) : W.cell? ⟨w.heap.size, off, none⟩ = some (.int .i64 (p i).rate) ∧ W.cell? ⟨w.heap.size, off + 1, none⟩ = some (.int .i64 (p i).burst) := by
  subst ho
  have := h.plan.two i hi
  exact ⟨this.1, this.2.1⟩

theorem Cn.out {w : World} {p : Nat → Sl.Lim} {W : World} (h : Cn w p W) : Below w.heap.size w W := (Below.alloc1 w _).trans (h.below.mono (Nat.le_succ _))

set_option maxRecDepth 100000 in
set_option maxHeartbeats 4000000 in
theorem canonical_any (p : Nat → Sl.Lim) (w : World) (hs : SmallP p) :
    Calls Tryz.prog 18 #[.agg (pc p)] w fun e w' => e = .returned (.string ⟨(upD p 2).toArray⟩) ∧ Below w.heap.size w w' := by
  have h0 : Cn w p (w.alloc (.cells (pc p) 32)) := ⟨Below.refl _ _⟩
  have H0 := hide h0; clear h0
  go_enter Tryz.func18, Tryz.ntmps18
  go_wp2_with fail
  go_loopw [3, 4] (fun vo t wr => ∃ c, c ≤ 2 ∧ t = .int .i64 (c : Nat) ∧ vo = .string ⟨(upA p c).toArray⟩ ∧ Cn w p wr) (fun _ t _ => 2 - (intOf t).toNat)
  case atStart => exact ⟨0, by omega, rfl, rfl, unhide H0⟩
  case round =>
    clear H0
    obtain ⟨c, hc, rfl, rfl, hp⟩ := hrel
    by_cases hlt : c < 2
    · have hw := hide (words_any c (p c) wr hlt (by have := hs c; omega) (by have := hs c; omega))
      obtain ⟨x0, x1⟩ := hp.two (i := c) (off := c * 2) (by omega) (by omega)
      have hL := upA_len hs c
      have hL2 := wordsT_len c _ (hs c)
      obtain ⟨s1, e1, k1⟩ := cat_ex ⟨(upA p c).toArray⟩ ⟨#[100, 101, 102, 97, 117, 108, 116, 32, 111, 114, 103]⟩ (upA p c) defOrgW rfl rfl (by simp [defOrgW]; omega)
      obtain ⟨s2, e2, k2⟩ := cat_ex s1 ⟨(wordsT c (p c)).toArray⟩ _ (wordsT c (p c)) e1 rfl (by simp [defOrgW]; omega)
      have E2 : Hid (s2 = ⟨(upA p (c + 1)).toArray⟩) := hide (by rw [e2]; unfold upA; rw [flat_snoc]; simp [txA])
      have HP := hide hp
      have hdk : decide ((c : Int) < 2) = true := by simp; omega
      generalize upA p c = oc at *
      generalize wordsT c (p c) = wc at *
      clear e1 e2 hp
      unfold limV at hw
      go_wp2_with fail
      refine (unhide hw).mono ?_
      rintro e w1 ⟨rfl, hb1⟩
      have HP1 := hide ((unhide HP).step hb1)
      clear hb1 HP
      go_wp2
      go_roundw
      case rel => exact ⟨c + 1, by omega, by go_num, by rw [unhide E2], unhide HP1⟩
      case measure => simp [intOf]; omega
    · have hce : c = 2 := by omega
      have hUA : upA p c = upB p 0 := by rw [hce]; simp [upB]
      rw [hUA]
      have hnc : ¬ (c : Int) < 2 := by omega
      clear hUA hce
      have HP := hide hp; clear hp
      go_wp2_with fail
      obtain ⟨ca, rfl⟩ : ∃ ca : Nat, ca = c := ⟨_, rfl⟩
      obtain ⟨wa, rfl⟩ : ∃ wa : World, wa = wr := ⟨_, rfl⟩
      go_loopw [3, 5] (fun vo t wr => ∃ c, c ≤ 2 ∧ t = .int .i64 (c : Nat) ∧ vo = .string ⟨(upB p c).toArray⟩ ∧ Cn w p wr) (fun _ t _ => 2 - (intOf t).toNat)
      case atStart => exact ⟨0, by omega, rfl, rfl, unhide HP⟩
      case round =>
        clear HP
        obtain ⟨c, hc, rfl, rfl, hp⟩ := hrel
        by_cases hlt : c < 2
        · have hw := hide (words_any c (p (2 + c)) wr hlt (by have := hs (2 + c); omega) (by have := hs (2 + c); omega))
          obtain ⟨x0, x1⟩ := hp.two (i := 2 + c) (off := 4 + c * 2) (by omega) (by omega)
          have hL := upB_len hs c
          have hL2 := wordsT_len c _ (hs (2 + c))
          obtain ⟨s1, e1, k1⟩ := cat_ex ⟨(upB p c).toArray⟩ ⟨#[100, 101, 102, 97, 117, 108, 116, 32, 116, 101, 110, 97, 110, 116]⟩ (upB p c) defTenW rfl rfl (by simp [defTenW]; omega)
          obtain ⟨s2, e2, k2⟩ := cat_ex s1 ⟨(wordsT c (p (2 + c))).toArray⟩ _ (wordsT c (p (2 + c))) e1 rfl (by simp [defTenW]; omega)
          have E2 : Hid (s2 = ⟨(upB p (c + 1)).toArray⟩) := hide (by rw [e2]; unfold upB; rw [flat_snoc]; simp [txB])
          have HP := hide hp
          have hdk : decide ((c : Int) < 2) = true := by simp; omega
          generalize upB p c = oc at *
          generalize wordsT c (p (2 + c)) = wc at *
          clear e1 e2 hp
          unfold limV at hw
          go_wp2_with fail
          refine (unhide hw).mono ?_
          rintro e w1 ⟨rfl, hb1⟩
          have HP1 := hide ((unhide HP).step hb1)
          clear hb1 HP
          go_wp2
          go_roundw
          case rel => exact ⟨c + 1, by omega, by go_num, by rw [unhide E2], unhide HP1⟩
          case measure => simp [intOf]; omega
        · have hce : c = 2 := by omega
          have hUB : upB p c = upC p 0 := by rw [hce]; simp [upC]
          rw [hUB]
          have hnc : ¬ (c : Int) < 2 := by omega
          clear hUB hce
          have HP := hide hp; clear hp
          go_wp2_with fail
          obtain ⟨cb, rfl⟩ : ∃ cb : Nat, cb = c := ⟨_, rfl⟩
          obtain ⟨wb, rfl⟩ : ∃ wb : World, wb = wr := ⟨_, rfl⟩
          go_loopw [3, 6] (fun vo t wr => ∃ o, o ≤ 2 ∧ t = .int .i64 (o : Nat) ∧ vo = .string ⟨(upC p o).toArray⟩ ∧ Cn w p wr) (fun _ t _ => 2 - (intOf t).toNat)
          case atStart => exact ⟨0, by omega, rfl, rfl, unhide HP⟩
          case round =>
            clear HP
            obtain ⟨o, ho, rfl, rfl, hp⟩ := hrel
            by_cases hlo : o < 2
            · have HP := hide hp; clear hp
              have hdo : decide ((o : Int) < 2) = true := by simp; omega
              have hio : (o : Int) < 2 := by omega
              go_wp2_with fail
              obtain ⟨wc, rfl⟩ : ∃ wc : World, wc = wr := ⟨_, rfl⟩
              go_loopw [3, 7] (fun vo t wr => ∃ c, c ≤ 2 ∧ t = .int .i64 (c : Nat) ∧ vo = .string ⟨(upC p o ++ rowC p o c).toArray⟩ ∧ Cn w p wr) (fun _ t _ => 2 - (intOf t).toNat)
              case atStart => exact ⟨0, by omega, rfl, by simp [rowC], unhide HP⟩
              case round =>
                clear HP
                obtain ⟨c, hc, rfl, rfl, hp⟩ := hrel
                by_cases hlt : c < 2
                · have hdk : decide ((c : Int) < 2) = true := by simp; omega
                  have hic : (c : Int) < 2 := by omega
                  obtain ⟨x0, x1⟩ := hp.two (i := 4 + 2 * o + c) (off := 8 + o * 4 + c * 2) (by omega) (by omega)
                  by_cases hr : 0 < (p (4 + 2 * o + c)).rate
                  · have hrp : (0 : Int) < (p (4 + 2 * o + c)).rate := by omega
                    have hwd := hide (fun W => words_any c (p (4 + 2 * o + c)) W hlt (by have := hs (4 + 2 * o + c); omega) (by have := hs (4 + 2 * o + c); omega))
                    have hog := hide (fun W => org_any o W hlo)
                    have hL := upC_len hs o
                    have hL1 := rowC_len hs o c
                    have hL2 := wordsT_len c _ (hs (4 + 2 * o + c))
                    have hL3 := orgW_len o
                    obtain ⟨s1, e1, k1⟩ := cat_ex ⟨(upC p o ++ rowC p o c).toArray⟩ ⟨#[111, 114, 103, 32]⟩ (upC p o ++ rowC p o c) [111, 114, 103, 32] rfl rfl (by simp; omega)
                    obtain ⟨s2, e2, k2⟩ := cat_ex s1 ⟨(orgW o).toArray⟩ _ (orgW o) e1 rfl (by simp; omega)
                    obtain ⟨s3, e3, k3⟩ := cat_ex s2 ⟨(wordsT c (p (4 + 2 * o + c))).toArray⟩ _ (wordsT c (p (4 + 2 * o + c))) e2 rfl (by simp; omega)
                    have E3 : Hid (s3 = ⟨(upC p o ++ rowC p o (c + 1)).toArray⟩) := hide (by rw [e3]; unfold rowC; rw [flat_snoc]; simp [txC, hr])
                    have HP := hide hp
                    generalize upC p o ++ rowC p o c = oc at *
                    generalize wordsT c (p (4 + 2 * o + c)) = wc at *
                    generalize orgW o = ow at *
                    generalize p (4 + 2 * o + c) = lc at *
                    clear e1 e2 e3 hp hL hL1 hL2 hL3 hr
                    unfold limV at hwd
                    go_wp2_with fail
                    go_region_held3 (fun w' => w'.cell? ⟨w.heap.size, 8 + o * 4 + c * 2, none⟩ = some (.int .i64 lc.rate) ∧ w'.cell? ⟨w.heap.size, 8 + o * 4 + c * 2 + 1, none⟩ = some (.int .i64 lc.burst)) (go_keep)
                      (first
                        | (go_at_call 24; refine (unhide hog _).mono ?_; rintro e w1 ⟨rfl, rfl⟩)
                        | (go_at_call 42; refine (unhide hwd _).mono ?_; rintro e w2 ⟨rfl, hb2⟩; have HP2 := hide (Cn.step (Cn.drew (unhide HP)) hb2); have y0 := (hb2.cell (p := ⟨w.heap.size, 8 + o * 4 + c * 2, none⟩) (cell_lt x0)).trans x0; have y1 := (hb2.cell (p := ⟨w.heap.size, 8 + o * 4 + c * 2 + 1, none⟩) (cell_lt x1)).trans x1; clear hb2))
                    go_wp2
                    go_roundw
                    case rel => exact ⟨c + 1, by omega, by go_num, by rw [unhide E3], unhide HP2⟩
                    case measure => simp [intOf]; omega
                  · have hrp : ¬ (0 : Int) < (p (4 + 2 * o + c)).rate := by omega
                    have E3 : Hid ((upC p o ++ rowC p o c) = (upC p o ++ rowC p o (c + 1))) := hide (by unfold rowC; rw [flat_snoc]; simp [txC, hr])
                    have HP := hide hp
                    clear hp hr
                    go_wp2
                    go_roundw
                    case rel => exact ⟨c + 1, by omega, by go_num, by rw [unhide E3], unhide HP⟩
                    case measure => simp [intOf]; omega
                · have hce : c = 2 := by omega
                  have E4 : Hid (upC p o ++ rowC p o c = upC p (o + 1)) := hide (by rw [hce]; unfold upC; rw [flat_snoc]; simp)
                  have hnc : ¬ (c : Int) < 2 := by omega
                  clear hce
                  have HP := hide hp; clear hp
                  go_wp2
                  go_roundw
                  case rel => exact ⟨o + 1, by omega, by go_num, by rw [unhide E4], unhide HP⟩
                  case measure => simp [intOf]; omega
            · have hoe : o = 2 := by omega
              have hUC : upC p o = upD p 0 := by rw [hoe]; simp [upD]
              rw [hUC]
              have hno : ¬ (o : Int) < 2 := by omega
              clear hUC hoe
              have HP := hide hp; clear hp
              go_wp2_with fail
              obtain ⟨oc, rfl⟩ : ∃ oc : Nat, oc = o := ⟨_, rfl⟩
              obtain ⟨wd, rfl⟩ : ∃ wd : World, wd = wr := ⟨_, rfl⟩
              go_loopw [3, 8] (fun vo t wr => ∃ o, o ≤ 2 ∧ t = .int .i64 (o : Nat) ∧ vo = .string ⟨(upD p o).toArray⟩ ∧ Cn w p wr) (fun _ t _ => 2 - (intOf t).toNat)
              case atStart => exact ⟨0, by omega, rfl, rfl, unhide HP⟩
              case round =>
                clear HP
                obtain ⟨o, ho, rfl, rfl, hp⟩ := hrel
                by_cases hlo : o < 2
                · have HP := hide hp; clear hp
                  have hdo : decide ((o : Int) < 2) = true := by simp; omega
                  have hio : (o : Int) < 2 := by omega
                  go_wp2_with fail
                  obtain ⟨we, rfl⟩ : ∃ we : World, we = wr := ⟨_, rfl⟩
                  go_loopw [3, 9] (fun vo t wr => ∃ s, s ≤ 2 ∧ t = .int .i64 (s : Nat) ∧ vo = .string ⟨(upD p o ++ rowE p o s).toArray⟩ ∧ Cn w p wr) (fun _ t _ => 2 - (intOf t).toNat)
                  case atStart => exact ⟨0, by omega, rfl, by simp [rowE], unhide HP⟩
                  case round =>
                    clear HP
                    obtain ⟨s, hs2, rfl, rfl, hp⟩ := hrel
                    by_cases hls : s < 2
                    · have HP := hide hp; clear hp
                      have hds : decide ((s : Int) < 2) = true := by simp; omega
                      have his : (s : Int) < 2 := by omega
                      go_wp2_with fail
                      obtain ⟨wf, rfl⟩ : ∃ wf : World, wf = wr := ⟨_, rfl⟩
                      go_loopw [3, 10] (fun vo t wr => ∃ c, c ≤ 2 ∧ t = .int .i64 (c : Nat) ∧ vo = .string ⟨(upD p o ++ rowE p o s ++ rowD p o s c).toArray⟩ ∧ Cn w p wr) (fun _ t _ => 2 - (intOf t).toNat)
                      case atStart => exact ⟨0, by omega, rfl, by simp [rowD], unhide HP⟩
                      case round =>
                        clear HP
                        obtain ⟨c, hc, rfl, rfl, hp⟩ := hrel
                        by_cases hlt : c < 2
                        · have hdk : decide ((c : Int) < 2) = true := by simp; omega
                          have hic : (c : Int) < 2 := by omega
                          obtain ⟨x0, x1⟩ := hp.two (i := 8 + 4 * o + 2 * s + c) (off := 16 + o * 8 + s * 4 + c * 2) (by omega) (by omega)
                          by_cases hr : 0 < (p (8 + 4 * o + 2 * s + c)).rate
                          · have hrp : (0 : Int) < (p (8 + 4 * o + 2 * s + c)).rate := by omega
                            have hwd := hide (fun W => words_any c (p (8 + 4 * o + 2 * s + c)) W hlt (by have := hs (8 + 4 * o + 2 * s + c); omega) (by have := hs (8 + 4 * o + 2 * s + c); omega))
                            have hog := hide (fun W => org_any o W hlo)
                            have hte := hide (fun W => tenant_any s W hls)
                            have hL := upD_len hs o
                            have hL0 := rowE_len hs o s
                            have hL1 := rowD_len hs o s c
                            have hL2 := wordsT_len c _ (hs (8 + 4 * o + 2 * s + c))
                            have hL3 := orgW_len o
                            have hL4 := tenW_len s
                            obtain ⟨s1, e1, k1⟩ := cat_ex ⟨(upD p o ++ rowE p o s ++ rowD p o s c).toArray⟩ ⟨#[116, 101, 110, 97, 110, 116, 32]⟩ (upD p o ++ rowE p o s ++ rowD p o s c) [116, 101, 110, 97, 110, 116, 32] rfl rfl (by simp; omega)
                            obtain ⟨s2, e2, k2⟩ := cat_ex s1 ⟨(orgW o).toArray⟩ _ (orgW o) e1 rfl (by simp; omega)
                            obtain ⟨s3, e3, k3⟩ := cat_ex s2 ⟨#[32]⟩ _ [32] e2 rfl (by simp; omega)
                            obtain ⟨s4, e4, k4⟩ := cat_ex s3 ⟨(tenW s).toArray⟩ _ (tenW s) e3 rfl (by simp; omega)
                            obtain ⟨s5, e5, k5⟩ := cat_ex s4 ⟨(wordsT c (p (8 + 4 * o + 2 * s + c))).toArray⟩ _ (wordsT c (p (8 + 4 * o + 2 * s + c))) e4 rfl (by simp; omega)
                            have E3 : Hid (s5 = ⟨(upD p o ++ rowE p o s ++ rowD p o s (c + 1)).toArray⟩) := hide (by rw [e5]; unfold rowD; rw [flat_snoc]; simp [txD, hr])
                            have HP := hide hp
                            generalize upD p o ++ rowE p o s ++ rowD p o s c = oc at *
                            generalize wordsT c (p (8 + 4 * o + 2 * s + c)) = wc at *
                            generalize orgW o = ow at *
                            generalize tenW s = tw at *
                            generalize p (8 + 4 * o + 2 * s + c) = lc at *
                            clear e1 e2 e3 e4 e5 hp hL hL0 hL1 hL2 hL3 hL4 hr
                            unfold limV at hwd
                            go_wp2_with fail
                            go_region_held3 (fun w' => w'.cell? ⟨w.heap.size, 16 + o * 8 + s * 4 + c * 2, none⟩ = some (.int .i64 lc.rate) ∧ w'.cell? ⟨w.heap.size, 16 + o * 8 + s * 4 + c * 2 + 1, none⟩ = some (.int .i64 lc.burst)) (go_keep)
                              (first
                                | (go_at_call 24; refine (unhide hog _).mono ?_; rintro e w1 ⟨rfl, rfl⟩)
                                | (go_at_call 25; refine (unhide hte _).mono ?_; rintro e w1 ⟨rfl, rfl⟩)
                                | (go_at_call 42; refine (unhide hwd _).mono ?_; rintro e w2 ⟨rfl, hb2⟩; have HP2 := hide (Cn.step (Cn.drew (unhide HP)) hb2); have y0 := (hb2.cell (p := ⟨w.heap.size, 16 + o * 8 + s * 4 + c * 2, none⟩) (cell_lt x0)).trans x0; have y1 := (hb2.cell (p := ⟨w.heap.size, 16 + o * 8 + s * 4 + c * 2 + 1, none⟩) (cell_lt x1)).trans x1; clear hb2))
                            go_wp2
                            go_roundw
                            case rel => exact ⟨c + 1, by omega, by go_num, by rw [unhide E3], unhide HP2⟩
                            case measure => simp [intOf]; omega
                          · have hrp : ¬ (0 : Int) < (p (8 + 4 * o + 2 * s + c)).rate := by omega
                            have E3 : Hid ((upD p o ++ rowE p o s ++ rowD p o s c) = (upD p o ++ rowE p o s ++ rowD p o s (c + 1))) := hide (by unfold rowD; rw [flat_snoc]; simp [txD, hr])
                            have HP := hide hp
                            clear hp hr
                            go_wp2
                            go_roundw
                            case rel => exact ⟨c + 1, by omega, by go_num, by rw [unhide E3], unhide HP⟩
                            case measure => simp [intOf]; omega
                        · have hce : c = 2 := by omega
                          have E4 : Hid (upD p o ++ rowE p o s ++ rowD p o s c = upD p o ++ rowE p o (s + 1)) := hide (by rw [hce]; unfold rowE; rw [flat_snoc]; simp)
                          have hnc : ¬ (c : Int) < 2 := by omega
                          clear hce
                          have HP := hide hp; clear hp
                          go_wp2
                          go_roundw
                          case rel => exact ⟨s + 1, by omega, by go_num, by rw [unhide E4], unhide HP⟩
                          case measure => simp [intOf]; omega
                    · have hse : s = 2 := by omega
                      have E4 : Hid (upD p o ++ rowE p o s = upD p (o + 1)) := hide (by rw [hse]; unfold upD; rw [flat_snoc]; simp)
                      have hns : ¬ (s : Int) < 2 := by omega
                      clear hse
                      have HP := hide hp; clear hp
                      go_wp2
                      go_roundw
                      case rel => exact ⟨o + 1, by omega, by go_num, by rw [unhide E4], unhide HP⟩
                      case measure => simp [intOf]; omega
                · have hoe : o = 2 := by omega
                  have E5 : Hid (upD p o = upD p 2) := hide (by rw [hoe])
                  have hno2 : ¬ (o : Int) < 2 := by omega
                  clear hoe
                  have HP := hide hp; clear hp
                  go_wp2
                  go_ret
                  exact ⟨ret_str (by rw [unhide E5]), (unhide HP).out⟩

end Go.Proofs.YthmhfilkgggagaaGreatDoor

/-
  The document's answer: Limits.
-/
import Derived.Test.YthmhfilkgggagaaGreatDoorRfB
namespace Go.Proofs.YthmhfilkgggagaaGreatDoor
open Go.RowKit Go.Maps Go.Sort

abbrev lnC (x : Ln) : Array Value := #[.int .i64 x.kind, .int .i64 x.cls, .string ⟨x.org.toArray⟩, .string ⟨x.ten.toArray⟩, .int .i64 x.rate, .int .i64 x.burst]

/-- A line in a block of its own. -/
def SixAt (w : World) (b : Nat) (x : Ln) : Prop := w.heap[b]? = some (.cells (lnC x) 178 (0, 0))

theorem SixAt.cells {w : World} {b : Nat} {x : Ln} (h : SixAt w b x) : w.cell? ⟨b, 0, none⟩ = some (.int .i64 x.kind) ∧ w.cell? ⟨b, 1, none⟩ = some (.int .i64 x.cls) ∧ w.cell? ⟨b, 2, none⟩ = some (.string ⟨x.org.toArray⟩) ∧ w.cell? ⟨b, 3, none⟩ = some (.string ⟨x.ten.toArray⟩) ∧ w.cell? ⟨b, 4, none⟩ = some (.int .i64 x.rate) ∧ w.cell? ⟨b, 5, none⟩ = some (.int .i64 x.burst) := by
  unfold SixAt at h
  refine ⟨?_, ?_, ?_, ?_, ?_, ?_⟩ <;> simp [World.cell?, h]

theorem SixAt.frozen {w : World} {b : Nat} {x : Ln} (h : SixAt w b x) : ∀ i, w.frozen? ⟨b, i, none⟩ = false := by
  intro i
  unfold SixAt at h
  simp [World.frozen?, h]

theorem SixAt.lt {w : World} {b : Nat} {x : Ln} (h : SixAt w b x) : b < w.heap.size := (Array.getElem?_eq_some_iff.1 h).1
theorem SixAt.below {w w' : World} {b B : Nat} {x : Ln} (h : SixAt w b x) (hb : Below B w w') (hB : b < B) : SixAt w' b x := (hb.block b hB).trans h

theorem SixAt.put {w : World} {b : Nat} {x : Ln} (h : SixAt w b x) (y : Ln) :
    SixAt ((((((w.setCell ⟨b, 0, none⟩ (.int .i64 y.kind)).setCell ⟨b, 1, none⟩ (.int .i64 y.cls)).setCell ⟨b, 2, none⟩ (.string ⟨y.org.toArray⟩)).setCell ⟨b, 3, none⟩ (.string ⟨y.ten.toArray⟩)).setCell ⟨b, 4, none⟩ (.int .i64 y.rate)).setCell ⟨b, 5, none⟩ (.int .i64 y.burst)) b y :=
  heap_setCell_at (heap_setCell_at (heap_setCell_at (heap_setCell_at (heap_setCell_at (heap_setCell_at h 0 _) 1 _) 2 _) 3 _) 4 _) 5 _

/-- What the inner round reads. -/
theorem inS {W : World} {lb bb rb g i n cap : Nat} {a b : Ln} {x : Sl.Subj × Sl.Lim} (h1 : SixAt W lb a) (h2 : SixAt W bb b) (h3 : W.cell? ⟨rb, 0, none⟩ = some (.slice (some ⟨g, 0, none⟩) n cap)) (h4 : ∀ j u, j < 6 → (saidC x.1 x.2)[j]? = some u → W.cell? ⟨g, i * 6 + j, none⟩ = some u) :
    W.cell? ⟨lb, 0, none⟩ = some (.int .i64 a.kind) ∧ W.cell? ⟨lb, 1, none⟩ = some (.int .i64 a.cls) ∧ W.cell? ⟨lb, 2, none⟩ = some (.string ⟨a.org.toArray⟩) ∧ W.cell? ⟨lb, 3, none⟩ = some (.string ⟨a.ten.toArray⟩) ∧ W.cell? ⟨lb, 4, none⟩ = some (.int .i64 a.rate) ∧ W.cell? ⟨lb, 5, none⟩ = some (.int .i64 a.burst) ∧ W.cell? ⟨bb, 0, none⟩ = some (.int .i64 b.kind) ∧ W.cell? ⟨bb, 1, none⟩ = some (.int .i64 b.cls) ∧ W.cell? ⟨bb, 2, none⟩ = some (.string ⟨b.org.toArray⟩) ∧ W.cell? ⟨bb, 3, none⟩ = some (.string ⟨b.ten.toArray⟩) ∧ W.cell? ⟨bb, 4, none⟩ = some (.int .i64 b.rate) ∧ W.cell? ⟨bb, 5, none⟩ = some (.int .i64 b.burst) ∧ W.cell? ⟨rb, 0, none⟩ = some (.slice (some ⟨g, 0, none⟩) n cap) ∧ W.cell? ⟨g, i * 6, none⟩ = some (.int .i64 x.1.kind) ∧ W.cell? ⟨g, i * 6 + 1, none⟩ = some (.int .i64 x.1.cls) ∧ W.cell? ⟨g, i * 6 + 2, none⟩ = some (.string ⟨x.1.org.toArray⟩) ∧ W.cell? ⟨g, i * 6 + 3, none⟩ = some (.string ⟨x.1.ten.toArray⟩) ∧ W.cell? ⟨g, i * 6 + 4, none⟩ = some (.int .i64 x.2.rate) ∧ W.cell? ⟨g, i * 6 + 5, none⟩ = some (.int .i64 x.2.burst) := by
  obtain ⟨a0, a1, a2, a3, a4, a5⟩ := h1.cells
  obtain ⟨b0, b1, b2, b3, b4, b5⟩ := h2.cells
  exact ⟨a0, a1, a2, a3, a4, a5, b0, b1, b2, b3, b4, b5, h3, h4 0 _ (by omega) rfl, h4 1 _ (by omega) rfl, h4 2 _ (by omega) rfl, h4 3 _ (by omega) rfl, h4 4 _ (by omega) rfl, h4 5 _ (by omega) rfl⟩

/-- All of it, whatever is made behind it. -/
structure Inn (w : World) (lb bb rb : Nat) (v vB : Value) (tm : Nat) (l : List (Sl.Subj × Sl.Lim)) (a b : Ln) (W : World) : Prop where
  one : SixAt W lb a
  two : SixAt W bb b
  ref : IsRef W rb v vB tm l
  below : Below w.heap.size w W

theorem Inn.step {w : World} {lb bb rb : Nat} {v vB : Value} {tm : Nat} {l : List (Sl.Subj × Sl.Lim)} {a b : Ln} {W W' : World} (h : Inn w lb bb rb v vB tm l a b W) (hb : Below W.heap.size W W') : Inn w lb bb rb v vB tm l a b W' :=
  ⟨h.one.below hb h.one.lt, h.two.below hb h.two.lt, h.ref.below hb, h.below.trans (hb.mono h.below.size)⟩

theorem Inn.reads {w : World} {lb bb rb g n cap i : Nat} {vB : Value} {tm : Nat} {l : List (Sl.Subj × Sl.Lim)} {a b : Ln} {W : World} (h : Inn w lb bb rb (.slice (some ⟨g, 0, none⟩) n cap) vB tm l a b W) (hi : i < l.length) {x : Sl.Subj × Sl.Lim} (hx : l[i] = x) :
    W.cell? ⟨lb, 0, none⟩ = some (.int .i64 a.kind) ∧ W.cell? ⟨lb, 1, none⟩ = some (.int .i64 a.cls) ∧ W.cell? ⟨lb, 2, none⟩ = some (.string ⟨a.org.toArray⟩) ∧ W.cell? ⟨lb, 3, none⟩ = some (.string ⟨a.ten.toArray⟩) ∧ W.cell? ⟨lb, 4, none⟩ = some (.int .i64 a.rate) ∧ W.cell? ⟨lb, 5, none⟩ = some (.int .i64 a.burst) ∧ W.cell? ⟨bb, 0, none⟩ = some (.int .i64 b.kind) ∧ W.cell? ⟨bb, 1, none⟩ = some (.int .i64 b.cls) ∧ W.cell? ⟨bb, 2, none⟩ = some (.string ⟨b.org.toArray⟩) ∧ W.cell? ⟨bb, 3, none⟩ = some (.string ⟨b.ten.toArray⟩) ∧ W.cell? ⟨bb, 4, none⟩ = some (.int .i64 b.rate) ∧ W.cell? ⟨bb, 5, none⟩ = some (.int .i64 b.burst) ∧ W.cell? ⟨rb, 0, none⟩ = some (.slice (some ⟨g, 0, none⟩) n cap) ∧ W.cell? ⟨g, i * 6, none⟩ = some (.int .i64 x.1.kind) ∧ W.cell? ⟨g, i * 6 + 1, none⟩ = some (.int .i64 x.1.cls) ∧ W.cell? ⟨g, i * 6 + 2, none⟩ = some (.string ⟨x.1.org.toArray⟩) ∧ W.cell? ⟨g, i * 6 + 3, none⟩ = some (.string ⟨x.1.ten.toArray⟩) ∧ W.cell? ⟨g, i * 6 + 4, none⟩ = some (.int .i64 x.2.rate) ∧ W.cell? ⟨g, i * 6 + 5, none⟩ = some (.int .i64 x.2.burst) := by
  obtain ⟨g', cap', e, _, hc⟩ := h.ref.list.nth hi
  cases e
  rw [hx] at hc
  exact inS h.one h.two h.ref.cell hc

theorem heap_setCell_other {w : World} {b c i : Nat} {v : Value} (h : b ≠ c) : (w.setCell ⟨c, i, none⟩ v).heap[b]? = w.heap[b]? := by
  by_cases hb : b < w.heap.size
  · exact (grown_set w c i v).block b hb (by simpa using h)
  · rw [Array.getElem?_eq_none (by simp; omega), Array.getElem?_eq_none (by omega)]

theorem SixAt.other {w : World} {b c i : Nat} {x : Ln} {v : Value} (h : SixAt w b x) (hne : b ≠ c) : SixAt (w.setCell ⟨c, i, none⟩ v) b x := (heap_setCell_other hne).trans h

theorem Inn.lims {w : World} {lb bb rb : Nat} {v vB : Value} {tm : Nat} {l : List (Sl.Subj × Sl.Lim)} {a b : Ln} {W : World} (h : Inn w lb bb rb v vB tm l a b W) {x : Sl.Subj × Sl.Lim} (hx : b = lnOf x) : W.cell? ⟨bb, 4, none⟩ = some (.int .i64 x.2.rate) ∧ W.cell? ⟨bb, 5, none⟩ = some (.int .i64 x.2.burst) := by
  subst hx
  exact h.two.cells.2.2.2.2

theorem Inn.put {w : World} {bb rb : Nat} {v vB : Value} {tm : Nat} {l : List (Sl.Subj × Sl.Lim)} {a b : Ln} {W : World} (h : Inn w w.heap.size bb rb v vB tm l a b W) (hr : IsRef w rb v vB tm l) (hne : w.heap.size < bb) (y : Ln) :
    Inn w w.heap.size bb rb v vB tm l a y ((((((W.setCell ⟨bb, 0, none⟩ (.int .i64 y.kind)).setCell ⟨bb, 1, none⟩ (.int .i64 y.cls)).setCell ⟨bb, 2, none⟩ (.string ⟨y.org.toArray⟩)).setCell ⟨bb, 3, none⟩ (.string ⟨y.ten.toArray⟩)).setCell ⟨bb, 4, none⟩ (.int .i64 y.rate)).setCell ⟨bb, 5, none⟩ (.int .i64 y.burst)) := by
  have hb : Below w.heap.size w ((((((W.setCell ⟨bb, 0, none⟩ (.int .i64 y.kind)).setCell ⟨bb, 1, none⟩ (.int .i64 y.cls)).setCell ⟨bb, 2, none⟩ (.string ⟨y.org.toArray⟩)).setCell ⟨bb, 3, none⟩ (.string ⟨y.ten.toArray⟩)).setCell ⟨bb, 4, none⟩ (.int .i64 y.rate)).setCell ⟨bb, 5, none⟩ (.int .i64 y.burst)) :=
    (((((h.below.setCell (Nat.le_of_lt hne) _).setCell (Nat.le_of_lt hne) _).setCell (Nat.le_of_lt hne) _).setCell (Nat.le_of_lt hne) _).setCell (Nat.le_of_lt hne) _).setCell (Nat.le_of_lt hne) _
  exact ⟨((((((h.one.other (by omega)).other (by omega)).other (by omega)).other (by omega)).other (by omega)).other (by omega)), h.two.put y, hr.below hb, hb⟩

def lenOf : Value → Nat
  | .string s => s.size
  | _ => 0

set_option maxRecDepth 100000 in
set_option maxHeartbeats 8000000 in
theorem refLimits_any (l : List (Sl.Subj × Sl.Lim)) (rb : Nat) (v vB : Value) (tm : Nat) (w : World) (h : IsRef w rb v vB tm l) :
    Calls Tryz.prog 59 #[.pointer (some ⟨rb, 0, none⟩)] w fun e w' => e = .returned (.string ⟨(textOf l).toArray⟩) ∧ Below w.heap.size w w' := by
  obtain ⟨RT, hRT⟩ : ∃ R, R = textOf l := ⟨_, rfl⟩
  rw [← hRT]
  have HRT := hide hRT
  have hrb := h.lt
  have hn := h.len
  have HH := hide h
  have HOK : Hid (OkT l) := hide h.ok
  clear hRT h
  go_enter Tryz.func59, Tryz.ntmps59
  go_wp2_with fail
  go_loopw [3] (fun vo wr => ∃ (k : Nat) (a : Ln) (ob : List UInt8), vo = .string ⟨ob.toArray⟩ ∧ k ≤ l.length ∧ Last l k a ∧ ob = textTo l ((ordS l).take k) ∧ SixAt wr w.heap.size a ∧ Below w.heap.size w wr) (fun vo wr => RT.length + 1 - lenOf vo)
  case atStart => exact ⟨0, firstLn, [], rfl, Nat.zero_le _, last_start l, rfl, (MapKept.heap_alloc w _).1, Below.alloc1 w _⟩
  case round =>
    obtain ⟨k, a, ob, rfl, hk, hlast, hob, hsix, hbw⟩ := hrel
    have hwr := hsix.lt
    have HLA := hide hlast; have HOB := hide hob
    have hin : Inn w w.heap.size wr.heap.size rb v vB tm l a lastLn (wr.alloc (.cells (lnC lastLn) 178)) :=
      ⟨hsix.below (Below.alloc1 wr _) hwr, (MapKept.heap_alloc wr _).1, (unhide HH).below (hbw.alloc hbw.size _), hbw.alloc hbw.size _⟩
    have HIN := hide hin
    clear hlast hob hin hsix hbw
    go_wp2_with fail
    obtain ⟨bb, hbb⟩ : ∃ n, n = wr.heap.size := ⟨_, rfl⟩
    rw [← hbb] at HIN hwr ⊢
    have HBB := hide hbb
    clear hbb
    go_loopw [6] (fun vi w2 => ∃ (i : Nat) (b : Ln), vi = .int .i64 i ∧ i ≤ l.length ∧ Best l a i b ∧ Inn w w.heap.size bb rb v vB tm l a b w2) (fun vi _ => l.length - (intOf vi).toNat)
    case atStart => exact ⟨0, lastLn, rfl, Nat.zero_le _, best_start l a, unhide HIN⟩
    case round =>
      obtain ⟨i, b, rfl, hil, hbest, hinn⟩ := hrel
      obtain ⟨av, cv, ev0⟩ : ∃ a c, v = .slice a l.length c := by
        rcases hinn.ref.list with ⟨h1, h2⟩ | ⟨g, cap, h1, _⟩
        · exact ⟨none, 0, by rw [h1, h2]; rfl⟩
        · exact ⟨_, _, h1⟩
      have hv1 : wr.cell? ⟨rb, 0, none⟩ = some (.slice av l.length cv) := by have := hinn.ref.cell; rw [ev0] at this; exact this
      have HB := hide hbest; have HI := hide hinn
      clear hbest hinn HIN
      by_cases hi : i < l.length
      · have hii : (i : Int) < (l.length : Int) := by omega
        obtain ⟨g, cap, ev, hg, _⟩ := (unhide HI).ref.list.nth hi
        obtain ⟨x, hx⟩ : ∃ x, l[i] = x := ⟨_, rfl⟩
        have HK4 : Hid (x.1.kind < 4) := hide (by rw [← hx]; exact ((unhide HOK).1.1 _ (List.getElem_mem hi)).1)
        clear hv1 ev0
        subst ev
        obtain ⟨zp0, zp1, zp2, zp3, zp4, zp5, zq0, zq1, zq2, zq3, zq4, zq5, zrc, zy0, zy1, zy2, zy3, zy4, zy5⟩ := (unhide HI).reads hi hx
        clear hg
        have hbf1 : Hid (∀ W, Calls Tryz.prog 92 #[.agg #[.int .i64 a.kind, .int .i64 a.cls, .string ⟨a.org.toArray⟩, .string ⟨a.ten.toArray⟩, .int .i64 a.rate, .int .i64 a.burst], .agg #[.int .i64 x.1.kind, .int .i64 x.1.cls, .string ⟨x.1.org.toArray⟩, .string ⟨x.1.ten.toArray⟩, .int .i64 x.2.rate, .int .i64 x.2.burst]] W fun e w' => e = .returned (.bool (bef a (lnOf x))) ∧ Below W.heap.size W w') := hide (fun W => befLn_any a (lnOf x) W)
        have hbf2 : Hid (∀ W, Calls Tryz.prog 92 #[.agg #[.int .i64 x.1.kind, .int .i64 x.1.cls, .string ⟨x.1.org.toArray⟩, .string ⟨x.1.ten.toArray⟩, .int .i64 x.2.rate, .int .i64 x.2.burst], .agg #[.int .i64 b.kind, .int .i64 b.cls, .string ⟨b.org.toArray⟩, .string ⟨b.ten.toArray⟩, .int .i64 b.rate, .int .i64 b.burst]] W fun e w' => e = .returned (.bool (bef (lnOf x) b)) ∧ Below W.heap.size W w') := hide (fun W => befLn_any (lnOf x) b W)
        obtain ⟨t1, ht1⟩ : ∃ t, bef a (lnOf x) = t := ⟨_, rfl⟩
        obtain ⟨t2, ht2⟩ : ∃ t, bef (lnOf x) b = t := ⟨_, rfl⟩
        rw [ht1] at hbf1
        rw [ht2] at hbf2
        have HT1 := hide ht1; have HT2 := hide ht2
        clear ht1 ht2
        go_wp2_with fail
        go_region_held3 (fun w' => w'.cell? ⟨w.heap.size, 0, none⟩ = some (.int .i64 a.kind) ∧ w'.cell? ⟨w.heap.size, 1, none⟩ = some (.int .i64 a.cls) ∧ w'.cell? ⟨w.heap.size, 2, none⟩ = some (.string ⟨a.org.toArray⟩) ∧ w'.cell? ⟨w.heap.size, 3, none⟩ = some (.string ⟨a.ten.toArray⟩) ∧ w'.cell? ⟨w.heap.size, 4, none⟩ = some (.int .i64 a.rate) ∧ w'.cell? ⟨w.heap.size, 5, none⟩ = some (.int .i64 a.burst) ∧ w'.cell? ⟨bb, 0, none⟩ = some (.int .i64 b.kind) ∧ w'.cell? ⟨bb, 1, none⟩ = some (.int .i64 b.cls) ∧ w'.cell? ⟨bb, 2, none⟩ = some (.string ⟨b.org.toArray⟩) ∧ w'.cell? ⟨bb, 3, none⟩ = some (.string ⟨b.ten.toArray⟩) ∧ w'.cell? ⟨bb, 4, none⟩ = some (.int .i64 b.rate) ∧ w'.cell? ⟨bb, 5, none⟩ = some (.int .i64 b.burst) ∧ w'.cell? ⟨rb, 0, none⟩ = some (.slice (some ⟨g, 0, none⟩) l.length cap) ∧ w'.cell? ⟨g, i * 6, none⟩ = some (.int .i64 x.1.kind) ∧ w'.cell? ⟨g, i * 6 + 1, none⟩ = some (.int .i64 x.1.cls) ∧ w'.cell? ⟨g, i * 6 + 2, none⟩ = some (.string ⟨x.1.org.toArray⟩) ∧ w'.cell? ⟨g, i * 6 + 3, none⟩ = some (.string ⟨x.1.ten.toArray⟩) ∧ w'.cell? ⟨g, i * 6 + 4, none⟩ = some (.int .i64 x.2.rate) ∧ w'.cell? ⟨g, i * 6 + 5, none⟩ = some (.int .i64 x.2.burst)) (go_keep)
          (first
            | (go_at_call 92; refine (unhide hbf1 _).mono ?_; rintro e w3 ⟨rfl, hbw3⟩; have Hw3 := hide ((unhide HI).step ((Below.refl _ _).drew.trans hbw3)); obtain ⟨w3p0, w3p1, w3p2, w3p3, w3p4, w3p5, w3q0, w3q1, w3q2, w3q3, w3q4, w3q5, w3rc, w3y0, w3y1, w3y2, w3y3, w3y4, w3y5⟩ := (unhide Hw3).reads hi hx; clear hbw3))
        go_wp2_with fail
        go_region_held3 (fun w' => w'.cell? ⟨w.heap.size, 0, none⟩ = some (.int .i64 a.kind) ∧ w'.cell? ⟨w.heap.size, 1, none⟩ = some (.int .i64 a.cls) ∧ w'.cell? ⟨w.heap.size, 2, none⟩ = some (.string ⟨a.org.toArray⟩) ∧ w'.cell? ⟨w.heap.size, 3, none⟩ = some (.string ⟨a.ten.toArray⟩) ∧ w'.cell? ⟨w.heap.size, 4, none⟩ = some (.int .i64 a.rate) ∧ w'.cell? ⟨w.heap.size, 5, none⟩ = some (.int .i64 a.burst) ∧ w'.cell? ⟨bb, 0, none⟩ = some (.int .i64 b.kind) ∧ w'.cell? ⟨bb, 1, none⟩ = some (.int .i64 b.cls) ∧ w'.cell? ⟨bb, 2, none⟩ = some (.string ⟨b.org.toArray⟩) ∧ w'.cell? ⟨bb, 3, none⟩ = some (.string ⟨b.ten.toArray⟩) ∧ w'.cell? ⟨bb, 4, none⟩ = some (.int .i64 b.rate) ∧ w'.cell? ⟨bb, 5, none⟩ = some (.int .i64 b.burst) ∧ w'.cell? ⟨rb, 0, none⟩ = some (.slice (some ⟨g, 0, none⟩) l.length cap) ∧ w'.cell? ⟨g, i * 6, none⟩ = some (.int .i64 x.1.kind) ∧ w'.cell? ⟨g, i * 6 + 1, none⟩ = some (.int .i64 x.1.cls) ∧ w'.cell? ⟨g, i * 6 + 2, none⟩ = some (.string ⟨x.1.org.toArray⟩) ∧ w'.cell? ⟨g, i * 6 + 3, none⟩ = some (.string ⟨x.1.ten.toArray⟩) ∧ w'.cell? ⟨g, i * 6 + 4, none⟩ = some (.int .i64 x.2.rate) ∧ w'.cell? ⟨g, i * 6 + 5, none⟩ = some (.int .i64 x.2.burst)) (go_keep)
          (first
            | (go_at_call 92; refine (unhide hbf2 _).mono ?_; rintro e w4 ⟨rfl, hbw4⟩; have Hw4 := hide ((unhide Hw3).step ((Below.refl _ _).drew.trans hbw4)); obtain ⟨w4p0, w4p1, w4p2, w4p3, w4p4, w4p5, w4q0, w4q1, w4q2, w4q3, w4q4, w4q5, w4rc, w4y0, w4y1, w4y2, w4y3, w4y4, w4y5⟩ := (unhide Hw4).reads hi hx; clear hbw4))
        clear zp0 zp1 zp2 zp3 zp4 zp5 zq0 zq1 zq2 zq3 zq4 zq5 zrc zy0 zy1 zy2 zy3 zy4 zy5 w3p0 w3p1 w3p2 w3p3 w3p4 w3p5 w3q0 w3q1 w3q2 w3q3 w3q4 w3q5 w3rc w3y0 w3y1 w3y2 w3y3 w3y4 w3y5
        cases t1 with
        | false =>
          have hkp := hide (best_keep hi (by rw [hx]; exact unhide HK4) (unhide HB) (by rw [hx, unhide HT1]; simp))
          go_wp2
          go_roundw
          case rel => exact ⟨i + 1, b, by go_num, by omega, unhide hkp, unhide Hw4⟩
          case measure => simp [intOf]; omega
        | true =>
          cases t2 with
          | false =>
            have hkp := hide (best_keep hi (by rw [hx]; exact unhide HK4) (unhide HB) (by rw [hx, unhide HT2]; simp))
            go_wp2
            go_roundw
            case rel => exact ⟨i + 1, b, by go_num, by omega, unhide hkp, unhide Hw4⟩
            case measure => simp [intOf]; omega
          | true =>
            have htk := hide (best_take hi (unhide HB) (by rw [hx]; exact unhide HT1) (by rw [hx]; exact unhide HT2))
            have f0 := (unhide Hw4).two.frozen 0
            have f1 := (unhide Hw4).two.frozen 1
            have f2 := (unhide Hw4).two.frozen 2
            have f3 := (unhide Hw4).two.frozen 3
            have f4 := (unhide Hw4).two.frozen 4
            have f5 := (unhide Hw4).two.frozen 5
            go_wp2
            go_roundw
            case rel =>
              refine ⟨i + 1, lnOf x, by go_num, by omega, ?_, (unhide Hw4).put (unhide HH) (by omega) (lnOf x)⟩
              have := unhide htk
              rw [hx] at this
              exact this
            case measure => simp [intOf]; omega
      · have hii : ¬ (i : Int) < (l.length : Int) := by omega
        have hend := best_end (unhide HOK).1 (unhide HLA) (by have := unhide HB; rw [show i = l.length by omega] at this; exact this) hk
        have cc := (unhide HI).two.cells
        rcases hend with ⟨hb9, hkl⟩ | ⟨x, hxl, hbx, hkx, hkl⟩
        · have HT : Hid (ob = RT) := hide (by rw [unhide HRT, unhide HOB, hkl, List.take_of_length_le (by rw [ord_len]; omega)]; rfl)
          have c0 : wr.cell? ⟨bb, 0, none⟩ = some (.int .i64 9) := by rw [hb9] at cc; exact cc.1
          clear hb9 hkl cc
          go_wp2
          go_ret
          exact ⟨ret_str (by rw [unhide HT]), (unhide HI).below⟩
        · obtain ⟨c0, c1, c2, c3, c4, c5⟩ : wr.cell? ⟨bb, 0, none⟩ = some (.int .i64 x.1.kind) ∧ wr.cell? ⟨bb, 1, none⟩ = some (.int .i64 x.1.cls) ∧ wr.cell? ⟨bb, 2, none⟩ = some (.string ⟨x.1.org.toArray⟩) ∧ wr.cell? ⟨bb, 3, none⟩ = some (.string ⟨x.1.ten.toArray⟩) ∧ wr.cell? ⟨bb, 4, none⟩ = some (.int .i64 x.2.rate) ∧ wr.cell? ⟨bb, 5, none⟩ = some (.int .i64 x.2.burst) := by rw [hbx] at cc; exact cc
          have hxs := (unhide HOK).1.1 x hxl
          have hxm := (unhide HOK).2.1 x hxl
          have HNX : Hid (Last l (k + 1) (lnOf x)) := hide (last_next (unhide HOK).1 hkx)
          have hnext : textTo l ((ordS l).take (k + 1)) = ob ++ lineText x.1 x.2 := by
            obtain ⟨hko, hke⟩ := List.getElem?_eq_some_iff.1 hkx
            rw [List.take_succ_eq_append_getElem hko, hke, textTo_snoc, ← unhide HOB, look_mem (unhide HOK).1.2 hxl]; rfl
          have hpre : (ob ++ lineText x.1 x.2).length ≤ RT.length := by
            rw [← hnext, unhide HRT]
            have e : textOf l = textTo l ((ordS l).take (k + 1)) ++ textTo l ((ordS l).drop (k + 1)) := by
              have e2 : textOf l = textTo l (ordS l) := rfl
              rw [e2]
              unfold textTo
              rw [← List.flatMap_append, List.take_append_drop]
            rw [e, List.length_append]; omega
          have hRTl : RT.length ≤ 10005000 := by rw [unhide HRT]; exact textOf_len (unhide HOK)
          have hobl : ob.length ≤ 10005000 := by have := hpre; rw [List.length_append] at this; omega
          rw [line_parts] at hnext hpre
          have l1 : (Lib.decDigits x.2.rate).length ≤ 7 := dec_len x.2.rate 6 (by omega)
          have l2 : (Lib.decDigits x.2.burst).length ≤ 7 := dec_len x.2.burst 6 (by omega)
          have ht1 := hide (refText_num x.2.rate (by omega))
          have ht2 := hide (refText_num x.2.burst (by omega))
          generalize Lib.decDigits x.2.rate = d1 at *
          generalize Lib.decDigits x.2.burst = d2 at *
          have HXL := hide hbx
          have HNT := hide hnext; have HPR := hide hpre
          have ho2 : x.1.org.length ≤ 2000 := hxs.2.2.1
          have ht3 : x.1.ten.length ≤ 2000 := hxs.2.2.2
          have hkk : x.1.kind = 0 ∨ x.1.kind = 1 ∨ x.1.kind = 2 ∨ x.1.kind = 3 := by have := hxs.1; omega
          have hcc : x.1.cls = 0 ∨ x.1.cls = 1 := by have := hxs.2.1; omega
          clear cc hbx hnext hpre hkx hxs hxm hRTl
          have fin : ∀ (W : World) (s6 : ByteArray) (F wd : List UInt8), s6 = ⟨((((((ob ++ F) ++ wd) ++ d1) ++ [32]) ++ d2) ++ [10]).toArray⟩ → F = frontT x.1 → wd = 32 :: Sl.classW x.1.cls ++ [32] → Inn w w.heap.size bb rb v vB tm l a (lnOf x) W →
              (∃ (k : Nat) (a : Ln) (ob : List UInt8), Value.string s6 = .string ⟨ob.toArray⟩ ∧ k ≤ l.length ∧ Last l k a ∧ ob = textTo l ((ordS l).take k) ∧ SixAt ((((((W.setCell ⟨w.heap.size, 0, none⟩ (.int .i64 x.1.kind)).setCell ⟨w.heap.size, 1, none⟩ (.int .i64 x.1.cls)).setCell ⟨w.heap.size, 2, none⟩ (.string ⟨x.1.org.toArray⟩)).setCell ⟨w.heap.size, 3, none⟩ (.string ⟨x.1.ten.toArray⟩)).setCell ⟨w.heap.size, 4, none⟩ (.int .i64 x.2.rate)).setCell ⟨w.heap.size, 5, none⟩ (.int .i64 x.2.burst)) w.heap.size a ∧ Below w.heap.size w ((((((W.setCell ⟨w.heap.size, 0, none⟩ (.int .i64 x.1.kind)).setCell ⟨w.heap.size, 1, none⟩ (.int .i64 x.1.cls)).setCell ⟨w.heap.size, 2, none⟩ (.string ⟨x.1.org.toArray⟩)).setCell ⟨w.heap.size, 3, none⟩ (.string ⟨x.1.ten.toArray⟩)).setCell ⟨w.heap.size, 4, none⟩ (.int .i64 x.2.rate)).setCell ⟨w.heap.size, 5, none⟩ (.int .i64 x.2.burst))) ∧ RT.length + 1 - lenOf (.string s6) < RT.length + 1 - lenOf (.string ⟨ob.toArray⟩) := by
            intro W s6 F wd e1 e2 e3 hI
            subst e1 e2 e3
            refine ⟨⟨k + 1, lnOf x, _, rfl, by omega, unhide HNX, ?_, hI.one.put (lnOf x), ?_⟩, ?_⟩
            · rw [unhide HNT]; simp
            · exact (((((hI.below.setCell (Nat.le_refl _) _).setCell (Nat.le_refl _) _).setCell (Nat.le_refl _) _).setCell (Nat.le_refl _) _).setCell (Nat.le_refl _) _).setCell (Nat.le_refl _) _
            · have hp := unhide HPR
              simp only [lenOf, size_arr]
              simp at hp ⊢
              omega
          have FIN := hide fin
          clear fin
          rcases hkk with hK | hK | hK | hK
          · rcases hcc with hC | hC
            · obtain ⟨s1, e1, k1⟩ := cat_ex ⟨ob.toArray⟩ ⟨#[100, 101, 102, 97, 117, 108, 116, 32, 111, 114, 103]⟩ ob [100, 101, 102, 97, 117, 108, 116, 32, 111, 114, 103] rfl rfl (by simp; omega)
              obtain ⟨s2, e2, k2⟩ := cat_ex s1 ⟨#[32, 105, 110, 103, 101, 115, 116, 32]⟩ _ [32, 105, 110, 103, 101, 115, 116, 32] e1 rfl (by simp; omega)
              obtain ⟨s3, e3, k3⟩ := cat_ex s2 ⟨d1.toArray⟩ _ d1 e2 rfl (by simp; omega)
              obtain ⟨s4, e4, k4⟩ := cat_ex s3 ⟨#[32]⟩ _ [32] e3 rfl (by simp; omega)
              obtain ⟨s5, e5, k5⟩ := cat_ex s4 ⟨d2.toArray⟩ _ d2 e4 rfl (by simp; omega)
              obtain ⟨s6, e6, k6⟩ := cat_ex s5 ⟨#[10]⟩ _ [10] e5 rfl (by simp; omega)
              have HF := hide (fun W => unhide FIN W s6 _ _ e6 (by unfold frontT; simp [hK, Sl.defaultW, Sl.orgW]) (by rw [hC]; rfl))
              clear e1 e2 e3 e4 e5 e6 FIN
              rw [hK] at c0 HF
              rw [hC] at c1 HF
              have HKC := hide (And.intro hK hC)
              clear hK hC
              go_wp2_with fail
              go_region_held3 (fun w' => w'.cell? ⟨bb, 4, none⟩ = some (.int .i64 x.2.rate) ∧ w'.cell? ⟨bb, 5, none⟩ = some (.int .i64 x.2.burst)) (go_keep)
                (first
                  | (go_at_call_of 93 (Value.int IntKind.i64 (x.2.rate : Int)); refine (unhide ht1 _).mono ?_; rintro e w5 ⟨rfl, hb5⟩; have H5 := hide ((unhide HI).step ((Below.refl _ _).drew.trans hb5)); obtain ⟨m4, m5⟩ : w5.cell? ⟨bb, 4, none⟩ = some (.int .i64 x.2.rate) ∧ w5.cell? ⟨bb, 5, none⟩ = some (.int .i64 x.2.burst) := (unhide H5).lims (unhide HXL); clear hb5)
                  | (go_at_call_of 93 (Value.int IntKind.i64 (x.2.burst : Int)); refine (unhide ht2 _).mono ?_; rintro e w6 ⟨rfl, hb6⟩; have H6 := hide ((unhide H5).step hb6); obtain ⟨j4, j5⟩ : w6.cell? ⟨bb, 4, none⟩ = some (.int .i64 x.2.rate) ∧ w6.cell? ⟨bb, 5, none⟩ = some (.int .i64 x.2.burst) := (unhide H6).lims (unhide HXL); clear hb6))
              have hI6 := unhide H6
              rw [unhide HXL] at hI6
              have HI6 := hide hI6
              obtain ⟨n0, n1, n2, n3, n4, n5⟩ : w6.cell? ⟨bb, 0, none⟩ = some (.int .i64 x.1.kind) ∧ w6.cell? ⟨bb, 1, none⟩ = some (.int .i64 x.1.cls) ∧ w6.cell? ⟨bb, 2, none⟩ = some (.string ⟨x.1.org.toArray⟩) ∧ w6.cell? ⟨bb, 3, none⟩ = some (.string ⟨x.1.ten.toArray⟩) ∧ w6.cell? ⟨bb, 4, none⟩ = some (.int .i64 x.2.rate) ∧ w6.cell? ⟨bb, 5, none⟩ = some (.int .i64 x.2.burst) := hI6.two.cells
              rw [(unhide HKC).1] at n0
              rw [(unhide HKC).2] at n1
              obtain ⟨o0, o1, o2, o3, o4, o5⟩ := hI6.one.cells
              have f0 := hI6.one.frozen 0
              have f1 := hI6.one.frozen 1
              have f2 := hI6.one.frozen 2
              have f3 := hI6.one.frozen 3
              have f4 := hI6.one.frozen 4
              have f5 := hI6.one.frozen 5
              clear hI6 j4 j5 m4 m5 c0 c1 c2 c3 c4 c5 k1 k2 k3 k4 k5 k6
              go_wp2
              go_roundw
              case rel => exact (unhide HF _ (unhide HI6)).1
              case measure => exact (unhide HF _ (unhide HI6)).2
            · obtain ⟨s1, e1, k1⟩ := cat_ex ⟨ob.toArray⟩ ⟨#[100, 101, 102, 97, 117, 108, 116, 32, 111, 114, 103]⟩ ob [100, 101, 102, 97, 117, 108, 116, 32, 111, 114, 103] rfl rfl (by simp; omega)
              obtain ⟨s2, e2, k2⟩ := cat_ex s1 ⟨#[32, 113, 117, 101, 114, 121, 32]⟩ _ [32, 113, 117, 101, 114, 121, 32] e1 rfl (by simp; omega)
              obtain ⟨s3, e3, k3⟩ := cat_ex s2 ⟨d1.toArray⟩ _ d1 e2 rfl (by simp; omega)
              obtain ⟨s4, e4, k4⟩ := cat_ex s3 ⟨#[32]⟩ _ [32] e3 rfl (by simp; omega)
              obtain ⟨s5, e5, k5⟩ := cat_ex s4 ⟨d2.toArray⟩ _ d2 e4 rfl (by simp; omega)
              obtain ⟨s6, e6, k6⟩ := cat_ex s5 ⟨#[10]⟩ _ [10] e5 rfl (by simp; omega)
              have HF := hide (fun W => unhide FIN W s6 _ _ e6 (by unfold frontT; simp [hK, Sl.defaultW, Sl.orgW]) (by rw [hC]; rfl))
              clear e1 e2 e3 e4 e5 e6 FIN
              rw [hK] at c0 HF
              rw [hC] at c1 HF
              have HKC := hide (And.intro hK hC)
              clear hK hC
              go_wp2_with fail
              go_region_held3 (fun w' => w'.cell? ⟨bb, 4, none⟩ = some (.int .i64 x.2.rate) ∧ w'.cell? ⟨bb, 5, none⟩ = some (.int .i64 x.2.burst)) (go_keep)
                (first
                  | (go_at_call_of 93 (Value.int IntKind.i64 (x.2.rate : Int)); refine (unhide ht1 _).mono ?_; rintro e w5 ⟨rfl, hb5⟩; have H5 := hide ((unhide HI).step ((Below.refl _ _).drew.trans hb5)); obtain ⟨m4, m5⟩ : w5.cell? ⟨bb, 4, none⟩ = some (.int .i64 x.2.rate) ∧ w5.cell? ⟨bb, 5, none⟩ = some (.int .i64 x.2.burst) := (unhide H5).lims (unhide HXL); clear hb5)
                  | (go_at_call_of 93 (Value.int IntKind.i64 (x.2.burst : Int)); refine (unhide ht2 _).mono ?_; rintro e w6 ⟨rfl, hb6⟩; have H6 := hide ((unhide H5).step hb6); obtain ⟨j4, j5⟩ : w6.cell? ⟨bb, 4, none⟩ = some (.int .i64 x.2.rate) ∧ w6.cell? ⟨bb, 5, none⟩ = some (.int .i64 x.2.burst) := (unhide H6).lims (unhide HXL); clear hb6))
              have hI6 := unhide H6
              rw [unhide HXL] at hI6
              have HI6 := hide hI6
              obtain ⟨n0, n1, n2, n3, n4, n5⟩ : w6.cell? ⟨bb, 0, none⟩ = some (.int .i64 x.1.kind) ∧ w6.cell? ⟨bb, 1, none⟩ = some (.int .i64 x.1.cls) ∧ w6.cell? ⟨bb, 2, none⟩ = some (.string ⟨x.1.org.toArray⟩) ∧ w6.cell? ⟨bb, 3, none⟩ = some (.string ⟨x.1.ten.toArray⟩) ∧ w6.cell? ⟨bb, 4, none⟩ = some (.int .i64 x.2.rate) ∧ w6.cell? ⟨bb, 5, none⟩ = some (.int .i64 x.2.burst) := hI6.two.cells
              rw [(unhide HKC).1] at n0
              rw [(unhide HKC).2] at n1
              obtain ⟨o0, o1, o2, o3, o4, o5⟩ := hI6.one.cells
              have f0 := hI6.one.frozen 0
              have f1 := hI6.one.frozen 1
              have f2 := hI6.one.frozen 2
              have f3 := hI6.one.frozen 3
              have f4 := hI6.one.frozen 4
              have f5 := hI6.one.frozen 5
              clear hI6 j4 j5 m4 m5 c0 c1 c2 c3 c4 c5 k1 k2 k3 k4 k5 k6
              go_wp2
              go_roundw
              case rel => exact (unhide HF _ (unhide HI6)).1
              case measure => exact (unhide HF _ (unhide HI6)).2
          · rcases hcc with hC | hC
            · obtain ⟨s1, e1, k1⟩ := cat_ex ⟨ob.toArray⟩ ⟨#[100, 101, 102, 97, 117, 108, 116, 32, 116, 101, 110, 97, 110, 116]⟩ ob [100, 101, 102, 97, 117, 108, 116, 32, 116, 101, 110, 97, 110, 116] rfl rfl (by simp; omega)
              obtain ⟨s2, e2, k2⟩ := cat_ex s1 ⟨#[32, 105, 110, 103, 101, 115, 116, 32]⟩ _ [32, 105, 110, 103, 101, 115, 116, 32] e1 rfl (by simp; omega)
              obtain ⟨s3, e3, k3⟩ := cat_ex s2 ⟨d1.toArray⟩ _ d1 e2 rfl (by simp; omega)
              obtain ⟨s4, e4, k4⟩ := cat_ex s3 ⟨#[32]⟩ _ [32] e3 rfl (by simp; omega)
              obtain ⟨s5, e5, k5⟩ := cat_ex s4 ⟨d2.toArray⟩ _ d2 e4 rfl (by simp; omega)
              obtain ⟨s6, e6, k6⟩ := cat_ex s5 ⟨#[10]⟩ _ [10] e5 rfl (by simp; omega)
              have HF := hide (fun W => unhide FIN W s6 _ _ e6 (by unfold frontT; simp [hK, Sl.defaultW, Sl.tenantW]) (by rw [hC]; rfl))
              clear e1 e2 e3 e4 e5 e6 FIN
              rw [hK] at c0 HF
              rw [hC] at c1 HF
              have HKC := hide (And.intro hK hC)
              clear hK hC
              go_wp2_with fail
              go_region_held3 (fun w' => w'.cell? ⟨bb, 4, none⟩ = some (.int .i64 x.2.rate) ∧ w'.cell? ⟨bb, 5, none⟩ = some (.int .i64 x.2.burst)) (go_keep)
                (first
                  | (go_at_call_of 93 (Value.int IntKind.i64 (x.2.rate : Int)); refine (unhide ht1 _).mono ?_; rintro e w5 ⟨rfl, hb5⟩; have H5 := hide ((unhide HI).step ((Below.refl _ _).drew.trans hb5)); obtain ⟨m4, m5⟩ : w5.cell? ⟨bb, 4, none⟩ = some (.int .i64 x.2.rate) ∧ w5.cell? ⟨bb, 5, none⟩ = some (.int .i64 x.2.burst) := (unhide H5).lims (unhide HXL); clear hb5)
                  | (go_at_call_of 93 (Value.int IntKind.i64 (x.2.burst : Int)); refine (unhide ht2 _).mono ?_; rintro e w6 ⟨rfl, hb6⟩; have H6 := hide ((unhide H5).step hb6); obtain ⟨j4, j5⟩ : w6.cell? ⟨bb, 4, none⟩ = some (.int .i64 x.2.rate) ∧ w6.cell? ⟨bb, 5, none⟩ = some (.int .i64 x.2.burst) := (unhide H6).lims (unhide HXL); clear hb6))
              have hI6 := unhide H6
              rw [unhide HXL] at hI6
              have HI6 := hide hI6
              obtain ⟨n0, n1, n2, n3, n4, n5⟩ : w6.cell? ⟨bb, 0, none⟩ = some (.int .i64 x.1.kind) ∧ w6.cell? ⟨bb, 1, none⟩ = some (.int .i64 x.1.cls) ∧ w6.cell? ⟨bb, 2, none⟩ = some (.string ⟨x.1.org.toArray⟩) ∧ w6.cell? ⟨bb, 3, none⟩ = some (.string ⟨x.1.ten.toArray⟩) ∧ w6.cell? ⟨bb, 4, none⟩ = some (.int .i64 x.2.rate) ∧ w6.cell? ⟨bb, 5, none⟩ = some (.int .i64 x.2.burst) := hI6.two.cells
              rw [(unhide HKC).1] at n0
              rw [(unhide HKC).2] at n1
              obtain ⟨o0, o1, o2, o3, o4, o5⟩ := hI6.one.cells
              have f0 := hI6.one.frozen 0
              have f1 := hI6.one.frozen 1
              have f2 := hI6.one.frozen 2
              have f3 := hI6.one.frozen 3
              have f4 := hI6.one.frozen 4
              have f5 := hI6.one.frozen 5
              clear hI6 j4 j5 m4 m5 c0 c1 c2 c3 c4 c5 k1 k2 k3 k4 k5 k6
              go_wp2
              go_roundw
              case rel => exact (unhide HF _ (unhide HI6)).1
              case measure => exact (unhide HF _ (unhide HI6)).2
            · obtain ⟨s1, e1, k1⟩ := cat_ex ⟨ob.toArray⟩ ⟨#[100, 101, 102, 97, 117, 108, 116, 32, 116, 101, 110, 97, 110, 116]⟩ ob [100, 101, 102, 97, 117, 108, 116, 32, 116, 101, 110, 97, 110, 116] rfl rfl (by simp; omega)
              obtain ⟨s2, e2, k2⟩ := cat_ex s1 ⟨#[32, 113, 117, 101, 114, 121, 32]⟩ _ [32, 113, 117, 101, 114, 121, 32] e1 rfl (by simp; omega)
              obtain ⟨s3, e3, k3⟩ := cat_ex s2 ⟨d1.toArray⟩ _ d1 e2 rfl (by simp; omega)
              obtain ⟨s4, e4, k4⟩ := cat_ex s3 ⟨#[32]⟩ _ [32] e3 rfl (by simp; omega)
              obtain ⟨s5, e5, k5⟩ := cat_ex s4 ⟨d2.toArray⟩ _ d2 e4 rfl (by simp; omega)
              obtain ⟨s6, e6, k6⟩ := cat_ex s5 ⟨#[10]⟩ _ [10] e5 rfl (by simp; omega)
              have HF := hide (fun W => unhide FIN W s6 _ _ e6 (by unfold frontT; simp [hK, Sl.defaultW, Sl.tenantW]) (by rw [hC]; rfl))
              clear e1 e2 e3 e4 e5 e6 FIN
              rw [hK] at c0 HF
              rw [hC] at c1 HF
              have HKC := hide (And.intro hK hC)
              clear hK hC
              go_wp2_with fail
              go_region_held3 (fun w' => w'.cell? ⟨bb, 4, none⟩ = some (.int .i64 x.2.rate) ∧ w'.cell? ⟨bb, 5, none⟩ = some (.int .i64 x.2.burst)) (go_keep)
                (first
                  | (go_at_call_of 93 (Value.int IntKind.i64 (x.2.rate : Int)); refine (unhide ht1 _).mono ?_; rintro e w5 ⟨rfl, hb5⟩; have H5 := hide ((unhide HI).step ((Below.refl _ _).drew.trans hb5)); obtain ⟨m4, m5⟩ : w5.cell? ⟨bb, 4, none⟩ = some (.int .i64 x.2.rate) ∧ w5.cell? ⟨bb, 5, none⟩ = some (.int .i64 x.2.burst) := (unhide H5).lims (unhide HXL); clear hb5)
                  | (go_at_call_of 93 (Value.int IntKind.i64 (x.2.burst : Int)); refine (unhide ht2 _).mono ?_; rintro e w6 ⟨rfl, hb6⟩; have H6 := hide ((unhide H5).step hb6); obtain ⟨j4, j5⟩ : w6.cell? ⟨bb, 4, none⟩ = some (.int .i64 x.2.rate) ∧ w6.cell? ⟨bb, 5, none⟩ = some (.int .i64 x.2.burst) := (unhide H6).lims (unhide HXL); clear hb6))
              have hI6 := unhide H6
              rw [unhide HXL] at hI6
              have HI6 := hide hI6
              obtain ⟨n0, n1, n2, n3, n4, n5⟩ : w6.cell? ⟨bb, 0, none⟩ = some (.int .i64 x.1.kind) ∧ w6.cell? ⟨bb, 1, none⟩ = some (.int .i64 x.1.cls) ∧ w6.cell? ⟨bb, 2, none⟩ = some (.string ⟨x.1.org.toArray⟩) ∧ w6.cell? ⟨bb, 3, none⟩ = some (.string ⟨x.1.ten.toArray⟩) ∧ w6.cell? ⟨bb, 4, none⟩ = some (.int .i64 x.2.rate) ∧ w6.cell? ⟨bb, 5, none⟩ = some (.int .i64 x.2.burst) := hI6.two.cells
              rw [(unhide HKC).1] at n0
              rw [(unhide HKC).2] at n1
              obtain ⟨o0, o1, o2, o3, o4, o5⟩ := hI6.one.cells
              have f0 := hI6.one.frozen 0
              have f1 := hI6.one.frozen 1
              have f2 := hI6.one.frozen 2
              have f3 := hI6.one.frozen 3
              have f4 := hI6.one.frozen 4
              have f5 := hI6.one.frozen 5
              clear hI6 j4 j5 m4 m5 c0 c1 c2 c3 c4 c5 k1 k2 k3 k4 k5 k6
              go_wp2
              go_roundw
              case rel => exact (unhide HF _ (unhide HI6)).1
              case measure => exact (unhide HF _ (unhide HI6)).2
          · rcases hcc with hC | hC
            · obtain ⟨r0, g0, h0⟩ := cat_ex ⟨#[111, 114, 103, 32]⟩ ⟨x.1.org.toArray⟩ [111, 114, 103, 32] x.1.org rfl rfl (by simp; omega)
              obtain ⟨s1, e1, k1⟩ := cat_ex ⟨ob.toArray⟩ r0 ob _ rfl g0 (by simp; omega)
              obtain ⟨s2, e2, k2⟩ := cat_ex s1 ⟨#[32, 105, 110, 103, 101, 115, 116, 32]⟩ _ [32, 105, 110, 103, 101, 115, 116, 32] e1 rfl (by simp; omega)
              obtain ⟨s3, e3, k3⟩ := cat_ex s2 ⟨d1.toArray⟩ _ d1 e2 rfl (by simp; omega)
              obtain ⟨s4, e4, k4⟩ := cat_ex s3 ⟨#[32]⟩ _ [32] e3 rfl (by simp; omega)
              obtain ⟨s5, e5, k5⟩ := cat_ex s4 ⟨d2.toArray⟩ _ d2 e4 rfl (by simp; omega)
              obtain ⟨s6, e6, k6⟩ := cat_ex s5 ⟨#[10]⟩ _ [10] e5 rfl (by simp; omega)
              have HF := hide (fun W => unhide FIN W s6 _ _ e6 (by unfold frontT; simp [hK, Sl.orgW]) (by rw [hC]; rfl))
              clear e1 e2 e3 e4 e5 e6 g0 FIN
              rw [hK] at c0 HF
              rw [hC] at c1 HF
              have HKC := hide (And.intro hK hC)
              clear hK hC
              go_wp2_with fail
              go_region_held3 (fun w' => w'.cell? ⟨bb, 4, none⟩ = some (.int .i64 x.2.rate) ∧ w'.cell? ⟨bb, 5, none⟩ = some (.int .i64 x.2.burst)) (go_keep)
                (first
                  | (go_at_call_of 93 (Value.int IntKind.i64 (x.2.rate : Int)); refine (unhide ht1 _).mono ?_; rintro e w5 ⟨rfl, hb5⟩; have H5 := hide ((unhide HI).step ((Below.refl _ _).drew.trans hb5)); obtain ⟨m4, m5⟩ : w5.cell? ⟨bb, 4, none⟩ = some (.int .i64 x.2.rate) ∧ w5.cell? ⟨bb, 5, none⟩ = some (.int .i64 x.2.burst) := (unhide H5).lims (unhide HXL); clear hb5)
                  | (go_at_call_of 93 (Value.int IntKind.i64 (x.2.burst : Int)); refine (unhide ht2 _).mono ?_; rintro e w6 ⟨rfl, hb6⟩; have H6 := hide ((unhide H5).step hb6); obtain ⟨j4, j5⟩ : w6.cell? ⟨bb, 4, none⟩ = some (.int .i64 x.2.rate) ∧ w6.cell? ⟨bb, 5, none⟩ = some (.int .i64 x.2.burst) := (unhide H6).lims (unhide HXL); clear hb6))
              have hI6 := unhide H6
              rw [unhide HXL] at hI6
              have HI6 := hide hI6
              obtain ⟨n0, n1, n2, n3, n4, n5⟩ : w6.cell? ⟨bb, 0, none⟩ = some (.int .i64 x.1.kind) ∧ w6.cell? ⟨bb, 1, none⟩ = some (.int .i64 x.1.cls) ∧ w6.cell? ⟨bb, 2, none⟩ = some (.string ⟨x.1.org.toArray⟩) ∧ w6.cell? ⟨bb, 3, none⟩ = some (.string ⟨x.1.ten.toArray⟩) ∧ w6.cell? ⟨bb, 4, none⟩ = some (.int .i64 x.2.rate) ∧ w6.cell? ⟨bb, 5, none⟩ = some (.int .i64 x.2.burst) := hI6.two.cells
              rw [(unhide HKC).1] at n0
              rw [(unhide HKC).2] at n1
              obtain ⟨o0, o1, o2, o3, o4, o5⟩ := hI6.one.cells
              have f0 := hI6.one.frozen 0
              have f1 := hI6.one.frozen 1
              have f2 := hI6.one.frozen 2
              have f3 := hI6.one.frozen 3
              have f4 := hI6.one.frozen 4
              have f5 := hI6.one.frozen 5
              clear hI6 j4 j5 m4 m5 c0 c1 c2 c3 c4 c5 k1 k2 k3 k4 k5 k6
              go_wp2
              go_roundw
              case rel => exact (unhide HF _ (unhide HI6)).1
              case measure => exact (unhide HF _ (unhide HI6)).2
            · obtain ⟨r0, g0, h0⟩ := cat_ex ⟨#[111, 114, 103, 32]⟩ ⟨x.1.org.toArray⟩ [111, 114, 103, 32] x.1.org rfl rfl (by simp; omega)
              obtain ⟨s1, e1, k1⟩ := cat_ex ⟨ob.toArray⟩ r0 ob _ rfl g0 (by simp; omega)
              obtain ⟨s2, e2, k2⟩ := cat_ex s1 ⟨#[32, 113, 117, 101, 114, 121, 32]⟩ _ [32, 113, 117, 101, 114, 121, 32] e1 rfl (by simp; omega)
              obtain ⟨s3, e3, k3⟩ := cat_ex s2 ⟨d1.toArray⟩ _ d1 e2 rfl (by simp; omega)
              obtain ⟨s4, e4, k4⟩ := cat_ex s3 ⟨#[32]⟩ _ [32] e3 rfl (by simp; omega)
              obtain ⟨s5, e5, k5⟩ := cat_ex s4 ⟨d2.toArray⟩ _ d2 e4 rfl (by simp; omega)
              obtain ⟨s6, e6, k6⟩ := cat_ex s5 ⟨#[10]⟩ _ [10] e5 rfl (by simp; omega)
              have HF := hide (fun W => unhide FIN W s6 _ _ e6 (by unfold frontT; simp [hK, Sl.orgW]) (by rw [hC]; rfl))
              clear e1 e2 e3 e4 e5 e6 g0 FIN
              rw [hK] at c0 HF
              rw [hC] at c1 HF
              have HKC := hide (And.intro hK hC)
              clear hK hC
              go_wp2_with fail
              go_region_held3 (fun w' => w'.cell? ⟨bb, 4, none⟩ = some (.int .i64 x.2.rate) ∧ w'.cell? ⟨bb, 5, none⟩ = some (.int .i64 x.2.burst)) (go_keep)
                (first
                  | (go_at_call_of 93 (Value.int IntKind.i64 (x.2.rate : Int)); refine (unhide ht1 _).mono ?_; rintro e w5 ⟨rfl, hb5⟩; have H5 := hide ((unhide HI).step ((Below.refl _ _).drew.trans hb5)); obtain ⟨m4, m5⟩ : w5.cell? ⟨bb, 4, none⟩ = some (.int .i64 x.2.rate) ∧ w5.cell? ⟨bb, 5, none⟩ = some (.int .i64 x.2.burst) := (unhide H5).lims (unhide HXL); clear hb5)
                  | (go_at_call_of 93 (Value.int IntKind.i64 (x.2.burst : Int)); refine (unhide ht2 _).mono ?_; rintro e w6 ⟨rfl, hb6⟩; have H6 := hide ((unhide H5).step hb6); obtain ⟨j4, j5⟩ : w6.cell? ⟨bb, 4, none⟩ = some (.int .i64 x.2.rate) ∧ w6.cell? ⟨bb, 5, none⟩ = some (.int .i64 x.2.burst) := (unhide H6).lims (unhide HXL); clear hb6))
              have hI6 := unhide H6
              rw [unhide HXL] at hI6
              have HI6 := hide hI6
              obtain ⟨n0, n1, n2, n3, n4, n5⟩ : w6.cell? ⟨bb, 0, none⟩ = some (.int .i64 x.1.kind) ∧ w6.cell? ⟨bb, 1, none⟩ = some (.int .i64 x.1.cls) ∧ w6.cell? ⟨bb, 2, none⟩ = some (.string ⟨x.1.org.toArray⟩) ∧ w6.cell? ⟨bb, 3, none⟩ = some (.string ⟨x.1.ten.toArray⟩) ∧ w6.cell? ⟨bb, 4, none⟩ = some (.int .i64 x.2.rate) ∧ w6.cell? ⟨bb, 5, none⟩ = some (.int .i64 x.2.burst) := hI6.two.cells
              rw [(unhide HKC).1] at n0
              rw [(unhide HKC).2] at n1
              obtain ⟨o0, o1, o2, o3, o4, o5⟩ := hI6.one.cells
              have f0 := hI6.one.frozen 0
              have f1 := hI6.one.frozen 1
              have f2 := hI6.one.frozen 2
              have f3 := hI6.one.frozen 3
              have f4 := hI6.one.frozen 4
              have f5 := hI6.one.frozen 5
              clear hI6 j4 j5 m4 m5 c0 c1 c2 c3 c4 c5 k1 k2 k3 k4 k5 k6
              go_wp2
              go_roundw
              case rel => exact (unhide HF _ (unhide HI6)).1
              case measure => exact (unhide HF _ (unhide HI6)).2
          · rcases hcc with hC | hC
            · obtain ⟨r0, g0, h0⟩ := cat_ex ⟨#[116, 101, 110, 97, 110, 116, 32]⟩ ⟨x.1.org.toArray⟩ [116, 101, 110, 97, 110, 116, 32] x.1.org rfl rfl (by simp; omega)
              obtain ⟨r1, g1, h1⟩ := cat_ex r0 ⟨#[32]⟩ _ [32] g0 rfl (by simp; omega)
              obtain ⟨r2, g2, h2⟩ := cat_ex r1 ⟨x.1.ten.toArray⟩ _ x.1.ten g1 rfl (by simp; omega)
              obtain ⟨s1, e1, k1⟩ := cat_ex ⟨ob.toArray⟩ r2 ob _ rfl g2 (by simp; omega)
              obtain ⟨s2, e2, k2⟩ := cat_ex s1 ⟨#[32, 105, 110, 103, 101, 115, 116, 32]⟩ _ [32, 105, 110, 103, 101, 115, 116, 32] e1 rfl (by simp; omega)
              obtain ⟨s3, e3, k3⟩ := cat_ex s2 ⟨d1.toArray⟩ _ d1 e2 rfl (by simp; omega)
              obtain ⟨s4, e4, k4⟩ := cat_ex s3 ⟨#[32]⟩ _ [32] e3 rfl (by simp; omega)
              obtain ⟨s5, e5, k5⟩ := cat_ex s4 ⟨d2.toArray⟩ _ d2 e4 rfl (by simp; omega)
              obtain ⟨s6, e6, k6⟩ := cat_ex s5 ⟨#[10]⟩ _ [10] e5 rfl (by simp; omega)
              have HF := hide (fun W => unhide FIN W s6 _ _ e6 (by unfold frontT; simp [hK, Sl.tenantW]) (by rw [hC]; rfl))
              clear e1 e2 e3 e4 e5 e6 g0 g1 g2 FIN
              rw [hK] at c0 HF
              rw [hC] at c1 HF
              have HKC := hide (And.intro hK hC)
              clear hK hC
              go_wp2_with fail
              go_region_held3 (fun w' => w'.cell? ⟨bb, 4, none⟩ = some (.int .i64 x.2.rate) ∧ w'.cell? ⟨bb, 5, none⟩ = some (.int .i64 x.2.burst)) (go_keep)
                (first
                  | (go_at_call_of 93 (Value.int IntKind.i64 (x.2.rate : Int)); refine (unhide ht1 _).mono ?_; rintro e w5 ⟨rfl, hb5⟩; have H5 := hide ((unhide HI).step ((Below.refl _ _).drew.trans hb5)); obtain ⟨m4, m5⟩ : w5.cell? ⟨bb, 4, none⟩ = some (.int .i64 x.2.rate) ∧ w5.cell? ⟨bb, 5, none⟩ = some (.int .i64 x.2.burst) := (unhide H5).lims (unhide HXL); clear hb5)
                  | (go_at_call_of 93 (Value.int IntKind.i64 (x.2.burst : Int)); refine (unhide ht2 _).mono ?_; rintro e w6 ⟨rfl, hb6⟩; have H6 := hide ((unhide H5).step hb6); obtain ⟨j4, j5⟩ : w6.cell? ⟨bb, 4, none⟩ = some (.int .i64 x.2.rate) ∧ w6.cell? ⟨bb, 5, none⟩ = some (.int .i64 x.2.burst) := (unhide H6).lims (unhide HXL); clear hb6))
              have hI6 := unhide H6
              rw [unhide HXL] at hI6
              have HI6 := hide hI6
              obtain ⟨n0, n1, n2, n3, n4, n5⟩ : w6.cell? ⟨bb, 0, none⟩ = some (.int .i64 x.1.kind) ∧ w6.cell? ⟨bb, 1, none⟩ = some (.int .i64 x.1.cls) ∧ w6.cell? ⟨bb, 2, none⟩ = some (.string ⟨x.1.org.toArray⟩) ∧ w6.cell? ⟨bb, 3, none⟩ = some (.string ⟨x.1.ten.toArray⟩) ∧ w6.cell? ⟨bb, 4, none⟩ = some (.int .i64 x.2.rate) ∧ w6.cell? ⟨bb, 5, none⟩ = some (.int .i64 x.2.burst) := hI6.two.cells
              rw [(unhide HKC).1] at n0
              rw [(unhide HKC).2] at n1
              obtain ⟨o0, o1, o2, o3, o4, o5⟩ := hI6.one.cells
              have f0 := hI6.one.frozen 0
              have f1 := hI6.one.frozen 1
              have f2 := hI6.one.frozen 2
              have f3 := hI6.one.frozen 3
              have f4 := hI6.one.frozen 4
              have f5 := hI6.one.frozen 5
              clear hI6 j4 j5 m4 m5 c0 c1 c2 c3 c4 c5 k1 k2 k3 k4 k5 k6
              go_wp2
              go_roundw
              case rel => exact (unhide HF _ (unhide HI6)).1
              case measure => exact (unhide HF _ (unhide HI6)).2
            · obtain ⟨r0, g0, h0⟩ := cat_ex ⟨#[116, 101, 110, 97, 110, 116, 32]⟩ ⟨x.1.org.toArray⟩ [116, 101, 110, 97, 110, 116, 32] x.1.org rfl rfl (by simp; omega)
              obtain ⟨r1, g1, h1⟩ := cat_ex r0 ⟨#[32]⟩ _ [32] g0 rfl (by simp; omega)
              obtain ⟨r2, g2, h2⟩ := cat_ex r1 ⟨x.1.ten.toArray⟩ _ x.1.ten g1 rfl (by simp; omega)
              obtain ⟨s1, e1, k1⟩ := cat_ex ⟨ob.toArray⟩ r2 ob _ rfl g2 (by simp; omega)
              obtain ⟨s2, e2, k2⟩ := cat_ex s1 ⟨#[32, 113, 117, 101, 114, 121, 32]⟩ _ [32, 113, 117, 101, 114, 121, 32] e1 rfl (by simp; omega)
              obtain ⟨s3, e3, k3⟩ := cat_ex s2 ⟨d1.toArray⟩ _ d1 e2 rfl (by simp; omega)
              obtain ⟨s4, e4, k4⟩ := cat_ex s3 ⟨#[32]⟩ _ [32] e3 rfl (by simp; omega)
              obtain ⟨s5, e5, k5⟩ := cat_ex s4 ⟨d2.toArray⟩ _ d2 e4 rfl (by simp; omega)
              obtain ⟨s6, e6, k6⟩ := cat_ex s5 ⟨#[10]⟩ _ [10] e5 rfl (by simp; omega)
              have HF := hide (fun W => unhide FIN W s6 _ _ e6 (by unfold frontT; simp [hK, Sl.tenantW]) (by rw [hC]; rfl))
              clear e1 e2 e3 e4 e5 e6 g0 g1 g2 FIN
              rw [hK] at c0 HF
              rw [hC] at c1 HF
              have HKC := hide (And.intro hK hC)
              clear hK hC
              go_wp2_with fail
              go_region_held3 (fun w' => w'.cell? ⟨bb, 4, none⟩ = some (.int .i64 x.2.rate) ∧ w'.cell? ⟨bb, 5, none⟩ = some (.int .i64 x.2.burst)) (go_keep)
                (first
                  | (go_at_call_of 93 (Value.int IntKind.i64 (x.2.rate : Int)); refine (unhide ht1 _).mono ?_; rintro e w5 ⟨rfl, hb5⟩; have H5 := hide ((unhide HI).step ((Below.refl _ _).drew.trans hb5)); obtain ⟨m4, m5⟩ : w5.cell? ⟨bb, 4, none⟩ = some (.int .i64 x.2.rate) ∧ w5.cell? ⟨bb, 5, none⟩ = some (.int .i64 x.2.burst) := (unhide H5).lims (unhide HXL); clear hb5)
                  | (go_at_call_of 93 (Value.int IntKind.i64 (x.2.burst : Int)); refine (unhide ht2 _).mono ?_; rintro e w6 ⟨rfl, hb6⟩; have H6 := hide ((unhide H5).step hb6); obtain ⟨j4, j5⟩ : w6.cell? ⟨bb, 4, none⟩ = some (.int .i64 x.2.rate) ∧ w6.cell? ⟨bb, 5, none⟩ = some (.int .i64 x.2.burst) := (unhide H6).lims (unhide HXL); clear hb6))
              have hI6 := unhide H6
              rw [unhide HXL] at hI6
              have HI6 := hide hI6
              obtain ⟨n0, n1, n2, n3, n4, n5⟩ : w6.cell? ⟨bb, 0, none⟩ = some (.int .i64 x.1.kind) ∧ w6.cell? ⟨bb, 1, none⟩ = some (.int .i64 x.1.cls) ∧ w6.cell? ⟨bb, 2, none⟩ = some (.string ⟨x.1.org.toArray⟩) ∧ w6.cell? ⟨bb, 3, none⟩ = some (.string ⟨x.1.ten.toArray⟩) ∧ w6.cell? ⟨bb, 4, none⟩ = some (.int .i64 x.2.rate) ∧ w6.cell? ⟨bb, 5, none⟩ = some (.int .i64 x.2.burst) := hI6.two.cells
              rw [(unhide HKC).1] at n0
              rw [(unhide HKC).2] at n1
              obtain ⟨o0, o1, o2, o3, o4, o5⟩ := hI6.one.cells
              have f0 := hI6.one.frozen 0
              have f1 := hI6.one.frozen 1
              have f2 := hI6.one.frozen 2
              have f3 := hI6.one.frozen 3
              have f4 := hI6.one.frozen 4
              have f5 := hI6.one.frozen 5
              clear hI6 j4 j5 m4 m5 c0 c1 c2 c3 c4 c5 k1 k2 k3 k4 k5 k6
              go_wp2
              go_roundw
              case rel => exact (unhide HF _ (unhide HI6)).1
              case measure => exact (unhide HF _ (unhide HI6)).2

end Go.Proofs.YthmhfilkgggagaaGreatDoor

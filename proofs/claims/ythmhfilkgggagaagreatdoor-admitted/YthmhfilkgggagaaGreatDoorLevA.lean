/-
  Levels that fall: what is left of them; the step of a range over a map of levels.
  Buckets, one by one: a key's organisation, a key in memory of its own; division that rounds up; how long to wait; a charge.
  Levels: a charge; whether there is room; what is left behind some nanoseconds.
  Levels: whether there is room; what is left behind some nanoseconds.
  Levels: what is left behind some nanoseconds.
  Levels: a request is decided: what stands in memory while it is.
-/
import Derived.Test.YthmhfilkgggagaaGreatDoorSluice
import Derived.Test.YthmhfilkgggagaaGreatDoorKeA
import Derived.WideKeyEntry
import Derived.BigQuiet
namespace Go.Proofs.YthmhfilkgggagaaGreatDoor
open Go.RowKit Go.Maps Go.Sort

def limK (l : List (Sl.Subj × Sl.Lim)) (k : Kb) : Sl.Lim := limitS l k.1 k.2.1 k.2.2

/-- What is left of the levels n nanoseconds later. -/
def fallV (l : List (Sl.Subj × Sl.Lim)) (n : Nat) (lv : Lv) : Lv := lv.filterMap fun x => if n * (limK l x.1).rate < x.2 then some (x.1, x.2 - n * (limK l x.1).rate) else none

theorem fallV_mem {l : List (Sl.Subj × Sl.Lim)} {n : Nat} {lv : Lv} {y : Kb × Nat} : y ∈ fallV l n lv ↔ ∃ x ∈ lv, n * (limK l x.1).rate < x.2 ∧ y = (x.1, x.2 - n * (limK l x.1).rate) := by
  unfold fallV
  rw [List.mem_filterMap]
  constructor
  · rintro ⟨x, hx, h⟩
    split at h
    · next h1 => cases h; exact ⟨x, hx, h1, rfl⟩
    · cases h
  · rintro ⟨x, hx, h1, rfl⟩
    exact ⟨x, hx, by rw [if_pos h1]⟩

theorem fallV_snoc (l : List (Sl.Subj × Sl.Lim)) (n : Nat) (acc : Lv) (x : Kb × Nat) : fallV l n (acc ++ [x]) = fallV l n acc ++ if n * (limK l x.1).rate < x.2 then [(x.1, x.2 - n * (limK l x.1).rate)] else [] := by
  unfold fallV
  rw [List.filterMap_append]
  congr 1
  by_cases h : n * (limK l x.1).rate < x.2
  · simp [h]
  · simp [h]

theorem OkV.perm {l1 l2 : Lv} (h : OkV l1) (hp : l1.Perm l2) : OkV l2 :=
  ⟨fun x hx => h.key x (hp.mem_iff.2 hx), fun x hx => h.pos x (hp.mem_iff.2 hx), (hp.pairwise_iff (fun {a b} (e : a.1 ≠ b.1) => e.symm)).1 h.apart⟩

theorem OkV.fall {lv : Lv} (h : OkV lv) (l : List (Sl.Subj × Sl.Lim)) (n : Nat) : OkV (fallV l n lv) := by
  refine ⟨fun y hy => ?_, fun y hy => ?_, ?_⟩
  · obtain ⟨x, hx, _, rfl⟩ := fallV_mem.1 hy; exact h.key x hx
  · obtain ⟨x, hx, h1, rfl⟩ := fallV_mem.1 hy
    have := (h.pos x hx).2
    exact ⟨by show 0 < x.2 - _; omega, by show x.2 - _ ≤ _; omega⟩
  · unfold fallV
    rw [List.pairwise_filterMap]
    refine h.apart.imp ?_
    intro a b hab y hy z hz
    split at hy
    · split at hz
      · cases hy; cases hz; exact hab
      · cases hz
    · cases hy

theorem OkV.sub {lv acc : Lv} (h : OkV lv) {r : Lv} (hp : (acc ++ r).Perm lv) : OkV acc := by
  have := h.perm hp.symm
  exact ⟨fun x hx => this.key x (by simp [hx]), fun x hx => this.pos x (by simp [hx]), (List.pairwise_append.1 this.apart).1⟩

theorem fallV_len (l : List (Sl.Subj × Sl.Lim)) (n : Nat) (lv : Lv) : (fallV l n lv).length ≤ lv.length := List.length_filterMap_le ..

theorem levOf_fall {lv : Lv} (h : OkV lv) (l : List (Sl.Subj × Sl.Lim)) (n : Nat) (k : Kb) : levOf (fallV l n lv) k = levOf lv k - n * (limK l k).rate := by
  rcases levOf_cases h k with ⟨h1, h2⟩ | ⟨x, hx, rfl, h1⟩
  · rw [h1, levOf_none]
    · omega
    · intro y hy
      obtain ⟨x, hx, _, rfl⟩ := fallV_mem.1 hy
      exact h2 x hx
  · rw [h1]
    by_cases hlt : n * (limK l x.1).rate < x.2
    · exact levOf_mem (h.fall l n).apart (x := (x.1, x.2 - n * (limK l x.1).rate)) (fallV_mem.2 ⟨x, hx, hlt, rfl⟩)
    · rw [levOf_none]
      · omega
      · intro y hy e
        obtain ⟨z, hz, h3, rfl⟩ := fallV_mem.1 hy
        have h4 := levOf_mem h.apart hz
        have e2 : z.1 = x.1 := e
        rw [e2, h1] at h4
        rw [e2, ← h4] at h3
        exact hlt h3

/-- Which entries have come, which are still to come. -/
structure CollV (lv : Lv) (left : Lit → Bool) (acc : Lv) : Prop where
  rest : ∃ r, (acc ++ r).Perm lv ∧ ∀ k, left k = true ↔ ∃ x ∈ r, klb x.1 = k

theorem CollV.start {D : DataW Unit} {lv : Lv} (h : ReadsV D lv) : CollV lv (Maps.has D) [] := ⟨lv, by simp, h.has⟩

theorem CollV.step {lv : Lv} {left : Lit → Bool} {acc : Lv} (hl : OkV lv) (h : CollV lv left acc) {k : Lit} (hk : left k = true) :
    ∃ x ∈ lv, klb x.1 = k ∧ CollV lv (fun z => left z && !z.sameKey k) (acc ++ [x]) := by
  obtain ⟨r, hp, hr⟩ := h
  obtain ⟨x, hs, rfl⟩ := (hr k).1 hk
  have hx : x ∈ lv := hp.mem_iff.1 (by simp [hs])
  refine ⟨x, hx, rfl, ?_⟩
  obtain ⟨r1, r2, rfl⟩ := List.append_of_mem hs
  have hok := hl.perm hp.symm
  refine ⟨r1 ++ r2, ?_, ?_⟩
  · refine List.Perm.trans ?_ hp
    rw [List.append_assoc]
    refine List.Perm.append_left _ ?_
    show (x :: (r1 ++ r2)).Perm _
    exact List.perm_middle.symm
  · intro k'
    have hne : ∀ t ∈ r1 ++ r2, t.1 ≠ x.1 := by
      intro t ht
      have h1 := (List.pairwise_append.1 hok.apart).2.1
      have h2 := (List.perm_middle (a := x) (l₁ := r1) (l₂ := r2)).pairwise_iff (R := fun (a b : Kb × Nat) => a.1 ≠ b.1) (fun {a b} (e : a.1 ≠ b.1) => e.symm) |>.1 h1
      exact fun e => (List.pairwise_cons.1 h2).1 t ht e.symm
    have hxo : OkK x.1 := hl.key x hx
    rw [Bool.and_eq_true, hr k', Bool.not_eq_true']
    constructor
    · rintro ⟨⟨t, ht, rfl⟩, hn⟩
      refine ⟨t, ?_, rfl⟩
      have : t ≠ x := by
        intro e; subst e
        rw [WideAt.sameKey_self (klb_key _)] at hn; cases hn
      simp at ht ⊢
      rcases ht with ht | ht | ht
      · exact .inl ht
      · exact absurd ht this
      · exact .inr ht
    · rintro ⟨t, ht, rfl⟩
      have hto : OkK t.1 := hok.key t (by simp at ht ⊢; rcases ht with h | h; exact .inr (.inl h); exact .inr (.inr (.inr h)))
      refine ⟨⟨t, by simp at ht ⊢; rcases ht with h | h; exact .inl h; exact .inr (.inr h), rfl⟩, ?_⟩
      exact sameKey_ne (fun e => hne t ht (klb_inj hto hxo e))

theorem CollV.done {lv : Lv} {left : Lit → Bool} {acc : Lv} (h : CollV lv left acc) (h0 : ∀ k, left k = false) : acc.Perm lv := by
  obtain ⟨r, hp, hr⟩ := h
  cases r with
  | nil => simpa using hp
  | cons s r =>
    have := (hr (klb s.1)).2 ⟨s, by simp, rfl⟩
    rw [h0] at this; cases this

theorem CollV.ok {lv : Lv} {left : Lit → Bool} {acc : Lv} (hl : OkV lv) (h : CollV lv left acc) : OkV acc ∧ acc.length ≤ lv.length := by
  obtain ⟨r, hp, _⟩ := h
  have := hp.length_eq
  simp at this
  exact ⟨hl.sub hp, by omega⟩

/-- The next one that comes is none of those that have come. -/
theorem CollV.fresh {lv : Lv} {left : Lit → Bool} {acc : Lv} {x : Kb × Nat} (hl : OkV lv) (h : CollV lv left (acc ++ [x])) : ∀ y ∈ acc, y.1 ≠ x.1 := by
  have h1 := (h.ok hl).1.apart
  exact fun y hy => (List.pairwise_append.1 h1).2.2 y hy x (by simp)

/-- The step of a range over a map of levels: the key and the level are those of an entry. -/
theorem next_lev {w : World} {ops : Array Oper} {rest : List Oper} {o : Oper} {a : Act} {Q : Exit → Act → World → Prop} (hg : o.guard = none) (it : Operand) (hop : o.op = Op.next it false) (b r n : Nat) (D : DataW Unit) (lv : Lv) (left : Lit → Bool) (cnt : Nat)
    (hit : a.eval it = .pointer (some ⟨r, 0, none⟩)) (h : w.ranges Tryz.prog 118 levR b r n D left cnt) (hR : ReadsV D lv) (hl : OkV lv) (acc : Lv) (hC : CollV lv left acc)
    (hDone : (∀ k, left k = false) → wpList Tryz.prog ops Q rest (a.put o.dst (.tuple #[.bool false])) w)
    (hMore : ∀ (x : Kb × Nat) (left' : Lit → Bool) (w' : World) (cnt' : Nat), CollV lv left' (acc ++ [x]) → x ∈ lv → w'.ranges Tryz.prog 118 levR b r n D left' cnt' → cnt' < cnt →
      w.grownBy w' (some r) → w'.heap.size = w.heap.size → (Instr.entry (.pointer (some ⟨r, 0, none⟩))).run Tryz.prog w' = .ok (.tuple #[.agg #[.int .i64 x.1.1, .string ⟨x.1.2.1.toArray⟩, .string ⟨x.1.2.2.toArray⟩], .int .i64 x.2]) w' →
      wpList Tryz.prog ops Q rest (a.put o.dst (.tuple #[.bool true, .agg #[.int .i64 x.1.1, .string ⟨x.1.2.1.toArray⟩, .string ⟨x.1.2.2.toArray⟩], .int .i64 x.2])) w') :
    wpList Tryz.prog ops Q (o :: rest) a w := by
  refine wpList_plain hg fun K' hK' => ?_
  unfold Oper.wp
  rcases h.next law_key o.type with ⟨h0, hl0, hrun⟩ | ⟨key, v, k, y, w', cnt', hkey, hlk, hv, hat, hrun, hrg, hlt, hgr, hsz, hen⟩
  · simp [execOp, hop, hit, hrun, Result.andThen]
    exact hK' _ _ (hDone hl0)
  · obtain ⟨x, hx, hkx, hC'⟩ := CollV.step hl hC hlk
    have hox := hl.key x hx
    have e1 : key = keyV x.1 := law_key.inj hkey (by rw [← hkx]; exact keyOf_key x.1 hox)
    have e2 : v = .int .i64 x.2 := by
      have h1 := hR.at_ x hx (levD 0)
      rw [hkx, hat] at h1
      obtain ⟨y1, y2⟩ := y
      subst h1
      exact levR_inv hv
    subst e1 e2
    simp [execOp, hop, hit, hrun, Result.andThen]
    exact hK' _ _ (hMore x _ w' cnt' hC' hx hrg hlt hgr hsz hen)

end Go.Proofs.YthmhfilkgggagaaGreatDoor

namespace Go.Proofs.YthmhfilkgggagaaGreatDoor
open Go.RowKit Go.Maps Go.Sort Go.ChangeMaps Go.MapKept

theorem roundUp_any (n b : Nat) (w : World) (h0 : 0 < b) (h1 : b ≤ 1000000000) (hn : n ≤ 4000000000000000) :
    Calls Tryz.prog 82 #[.int .i64 n, .int .i64 b] w fun e w' => e = .returned (.int .i64 ((n + b - 1) / b : Nat)) ∧ w' = w := by
  have e1 : ((n : Int) + b - 1) = ((n + b - 1 : Nat) : Int) := by omega
  have hq : ((n : Int) + b - 1) / (b : Int) = (((n + b - 1) / b : Nat) : Int) := by rw [e1]; simp
  have hqt : ((n : Int) + b - 1).tdiv (b : Int) = (((n + b - 1) / b : Nat) : Int) := by rw [Int.tdiv_eq_ediv_of_nonneg (by omega)]; exact hq
  have hqb : (n + b - 1) / b ≤ 5000000000000000 := Nat.le_trans (Nat.div_le_self _ _) (by omega)
  obtain ⟨Q, hQ⟩ : ∃ Q, (n + b - 1) / b = Q := ⟨_, rfl⟩
  rw [hQ] at hq hqt hqb ⊢
  have hbz : ¬ ((b : Int) = 0) := by omega
  have hby : ¬ (b = 0) := by omega
  clear e1 hQ
  go_enter Tryz.func82, Tryz.ntmps82
  go_wp2
  go_ret
  exact ⟨ret_int (by first | rfl | assumption | omega), rfl⟩

theorem organisation_any (c : Nat) (org ten : List UInt8) (w : World) :
    Calls Tryz.prog 79 #[.agg #[.int .i64 c, .string ⟨org.toArray⟩, .string ⟨ten.toArray⟩]] w fun e w' => e = .returned (.agg #[.int .i64 c, .string ⟨org.toArray⟩, .string ⟨#[]⟩]) ∧ Below w.heap.size w w' := by
  go_enter Tryz.func79, Tryz.ntmps79
  go_wp2
  refine bodyPost_ret (v := .agg #[.int .i64 c, .string ⟨org.toArray⟩, .string ⟨#[]⟩]) (by simp [results, Tryz.results79, go_sem]) rfl ⟨rfl, ?_⟩
  exact (Below.alloc1 w _).alloc (by simp) _

set_option maxRecDepth 100000 in
set_option maxHeartbeats 1000000 in
theorem keyClone_any (c : Nat) (org ten : List UInt8) (w : World) (ho : org.length ≤ 2000) (ht : ten.length ≤ 2000) :
    Calls Tryz.prog 122 #[.agg #[.int .i64 c, .string ⟨org.toArray⟩, .string ⟨ten.toArray⟩]] w fun e w' => e = .returned (.agg #[.int .i64 c, .string ⟨org.toArray⟩, .string ⟨ten.toArray⟩]) ∧ Below w.heap.size w w' := by
  obtain ⟨O, hO⟩ : ∃ O : ByteArray, O = ⟨org.toArray⟩ := ⟨_, rfl⟩
  obtain ⟨T, hT⟩ : ∃ T : ByteArray, T = ⟨ten.toArray⟩ := ⟨_, rfl⟩
  have hc1 := hide (fun w => clone_big O w (by rw [hO]; show org.toArray.size ≤ _; simp; omega))
  have hc2 := hide (fun w => clone_big T w (by rw [hT]; show ten.toArray.size ≤ _; simp; omega))
  rw [← hO, ← hT]
  clear hO hT ho ht
  obtain ⟨WA, hWA⟩ : ∃ WA, WA = (w.alloc (.cells #[.int .i64 c, .string O, .string T] 118)).alloc (.cells #[.int .i64 0, .string ⟨#[]⟩, .string ⟨#[]⟩] 118) := ⟨_, rfl⟩
  have hka : Three WA w.heap.size (.int .i64 c) (.string O) (.string T) := by
    rw [hWA]; exact (Three.made w (.int .i64 c) (.string O) (.string T) 118).keep (Below.alloc1 _ _) (by simp)
  have hza : Three WA (w.heap.size + 1) (.int .i64 0) (.string ⟨#[]⟩) (.string ⟨#[]⟩) := by
    have := Three.made (w.alloc (.cells #[.int .i64 c, .string O, .string T] 118)) (.int .i64 0) (.string ⟨#[]⟩) (.string ⟨#[]⟩) 118
    rw [hWA]; simpa using this
  have hba : Below w.heap.size w WA := by rw [hWA]; exact (Below.alloc1 w _).alloc (by simp) _
  have HW := hide hWA; have HK := hide hka; have HZ := hide hza; have HB := hide hba
  obtain ⟨k0, k1, k2, -, -, -, kn⟩ := hka
  have hzn := hza.2.2.2.2.2.2
  clear hWA hza hba
  go_enter Tryz.func122, Tryz.ntmps122
  go_wp2_with fail
  rw [← unhide HW]
  go_region_held3 (fun w' => w'.cell? ⟨w.heap.size, 0, none⟩ = some (.int .i64 c) ∧ w'.cell? ⟨w.heap.size, 1, none⟩ = some (.string O) ∧ w'.cell? ⟨w.heap.size, 2, none⟩ = some (.string T)) (go_keep)
    (first
      | (go_at_call_of 70 (Value.string O); refine (unhide hc1 _).mono ?_; rintro e w1 ⟨rfl, hb1⟩; have HB1 := hide hb1; have HK1 := hide (Three.keep (W := WA.drew) (unhide HK) hb1 kn); have HZ1 := hide (Three.keep (W := WA.drew) (unhide HZ) hb1 hzn); clear hb1; obtain ⟨p0, p1, p2, -, -, -, pn⟩ := unhide HK1; have pz := (unhide HZ1).2.2.2.2.2.2)
      | (go_at_call_of 70 (Value.string T); refine (unhide hc2 _).mono ?_; rintro e w2 ⟨rfl, hb2⟩; have HB2 := hide hb2; obtain ⟨q0, q1, q2, -, -, -, qn⟩ := (unhide HK1).keep hb2 pn; obtain ⟨z0, z1, z2, f0, f1, f2, zn⟩ := (unhide HZ1).keep hb2 pz; clear hb2))
  go_wp2
  refine bodyPost_ret (v := .agg #[.int .i64 c, .string O, .string T]) (by simp [results, Tryz.results122, go_sem, z0, z1, z2]) rfl ⟨rfl, ?_⟩
  have h2 : Below w.heap.size w w2 := ((unhide HB).drew.trans ((unhide HB1).mono (unhide HB).size)).trans ((unhide HB2).mono (Nat.le_trans (unhide HB).size (unhide HB1).size))
  exact ((h2.setCell (by simp) _).setCell (by simp) _).setCell (by simp) _

theorem max_nat (a : Int) (b : Nat) (h : a = (b : Int)) : max a 0 = (b : Int) := by omega

/-- How long a cost must wait. -/
def waitV (level rate burst cost : Nat) : Nat := (level + cost * 1000000000 - burst * 1000000000 + rate - 1) / rate

set_option maxRecDepth 100000 in
set_option maxHeartbeats 1000000 in
theorem lvWait_any (lb : Nat) (lv : Lv) (k : Kb) (cost rate burst : Nat) (w : World) (h : OwnsV w lb lv) (hv : OkV lv) (hk : OkK k) (hr0 : 0 < rate) (hr : rate ≤ 1000000) (hu : burst ≤ 1000000) (hc : cost ≤ 1000000) :
    Calls Tryz.prog 81 #[.map (some lb), .agg #[.int .i64 k.1, .string ⟨k.2.1.toArray⟩, .string ⟨k.2.2.toArray⟩], .int .i64 cost, .agg #[.int .i64 rate, .int .i64 burst]] w fun e w' => e = .returned (.int .i64 (waitV (levOf lv k) rate burst cost : Nat)) ∧ Below w.heap.size w w' := by
  have hlv : levOf lv k ≤ 1000000000000000 := by
    rcases levOf_cases hv k with ⟨h1, _⟩ | ⟨x, hx, _, h1⟩
    · omega
    · rw [h1]; exact (hv.pos x hx).2
  have hlk : ∀ o1 o2, (Instr.lookup 91 (.map (some lb)) (.agg #[.int .i64 k.1, .string ⟨k.2.1.toArray⟩, .string ⟨k.2.2.toArray⟩]) false).run Tryz.prog ((w.alloc o1).alloc o2).drew = .ok (.int .i64 (levOf lv k : Nat)) ((w.alloc o1).alloc o2).drew :=
    fun o1 o2 => look_lev (w := ((w.alloc o1).alloc o2).drew) (h.kept ((World.grownBy_alloc w o1 none).trans ((World.grownBy_alloc _ o2 none).trans (grown_drew none))) (by simp)) hv hk
  unfold waitV
  generalize levOf lv k = L at *
  obtain ⟨M, hM⟩ : ∃ M, L + cost * 1000000000 - burst * 1000000000 = M := ⟨_, rfl⟩
  have hMb : M ≤ 2000000000000000 := by omega
  have hmx : max ((L : Int) + ((cost : Int) - burst) * 1000000000) 0 = (M : Int) := by omega
  rw [hM]
  have hru := hide (fun W => roundUp_any M rate W hr0 (by omega) (by omega))
  clear h hv hM
  obtain ⟨c, org, ten⟩ := k
  simp only [] at hlk ⊢
  obtain ⟨WA, hWA⟩ : ∃ WA, WA = (w.alloc (.cells #[.int .i64 c, .string ⟨org.toArray⟩, .string ⟨ten.toArray⟩] 118)).alloc (.cells #[.int .i64 rate, .int .i64 burst] 27) := ⟨_, rfl⟩
  have hlk2 := hlk (.cells #[.int .i64 c, .string ⟨org.toArray⟩, .string ⟨ten.toArray⟩] 118) (.cells #[.int .i64 rate, .int .i64 burst] 27)
  rw [← hWA] at hlk2
  have hka : Three WA w.heap.size (.int .i64 c) (.string ⟨org.toArray⟩) (.string ⟨ten.toArray⟩) := by
    rw [hWA]; exact (Three.made w (.int .i64 c) (.string ⟨org.toArray⟩) (.string ⟨ten.toArray⟩) 118).keep (Below.alloc1 _ _) (by simp)
  have hza : Two WA (w.heap.size + 1) (.int .i64 rate) (.int .i64 burst) := by
    have := Two.made (w.alloc (.cells #[.int .i64 c, .string ⟨org.toArray⟩, .string ⟨ten.toArray⟩] 118)) (.int .i64 rate) (.int .i64 burst) 27
    rw [hWA]; simpa using this
  have hba : Below w.heap.size w WA := by rw [hWA]; exact (Below.alloc1 w _).alloc (by simp) _
  have HW := hide hWA; have HB := hide hba
  obtain ⟨k0, k1, k2, -, -, -, -⟩ := hka
  obtain ⟨z0, z1, -, -, -⟩ := hza
  clear hWA hba hlk
  go_enter Tryz.func81, Tryz.ntmps81
  go_wp2_with fail
  rw [← unhide HW]
  go_region_held3 (fun w' => w' = WA.drew) (first | rfl | assumption) (fail)
  go_wp2_with fail
  refine (unhide hru _).mono ?_
  rintro e w1 ⟨rfl, rfl⟩
  go_wp2
  go_ret
  exact ⟨rfl, (unhide HB).drew⟩

theorem law_key0 : WideMaps.KeyLaw Tryz.prog 118 := deep_law_laid laidOut (m := 4) (by omega) row_key keyAt_key (by rw [Tryz.underlying118])

/-- An entry that is come to stands in the map as if its own level were stored. -/
theorem entry_as_update {w : World} {b clock : Nat} {es : Array MapEntry} (hb : w.heap[b]? = some (.map es clock)) (F : WideElems.Fit Tryz.prog 118 levR es clock) {k : Kb} (hk : OkK k) :
    ∃ (v0 st : Value) (w1 : World), (Instr.mapEntry 91 (.map (some b)) (keyV k)).run Tryz.prog w = .ok (.tuple #[v0, st]) w1 ∧ (Instr.mapUpdate 91 (.map (some b)) (keyV k) v0).run Tryz.prog w = .ok () w1 ∧ (Instr.lookup 91 (.map (some b)) (keyV k) false).run Tryz.prog w = .ok v0 w := by
  have hkey := keyOf_key k hk
  have ht := Tryz.underlying91
  rcases law_key0.find w hkey es.toList F.keys with ⟨h1, h2⟩ | ⟨j, e0, h1, h2, h3⟩
  · refine ⟨.int .i64 0, goInt clock, setBlock w b (.map (es.push ⟨keyV k, .int .i64 0, clock⟩) (clock + 1)), ?_, ?_, ?_⟩
    · simp [Instr.mapEntry, run_underlying ht, MapKept.run_getObj_map hb, law_key0.check w false hkey, h1, MapKept.run_setObj_map _ hb, Result.andThen, setBlock]
    · simp [Instr.mapUpdate, run_underlying ht, MapKept.run_getObj_map hb, law_key0.check w false hkey, h1, MapKept.run_setObj_map _ hb, Result.andThen, setBlock]
    · simp [Instr.lookup, run_underlying ht, MapKept.run_getObj_map hb, law_key0.check w _ hkey, h1, Result.andThen]
  · have hj : es[j]? = some e0 := by simpa using h2
    refine ⟨e0.val, goInt e0.born, setBlock w b (.map (es.modify j fun e' => { e' with key := keyV k, val := e0.val }) clock), ?_, ?_, ?_⟩
    · have hsame : es.modify j (fun e => { e with key := keyV k }) = es.modify j (fun e' => { e' with key := keyV k, val := e0.val }) := by
        apply Array.ext'
        rw [Array.toList_modify, Array.toList_modify, ChangeMaps.modify_eq_set _ _ _ _ h2, ChangeMaps.modify_eq_set _ _ _ _ h2]
      simp [Instr.mapEntry, run_underlying ht, MapKept.run_getObj_map hb, law_key0.check w false hkey, h1, hj, h3, law_key0.stays w hkey, hsame, MapKept.run_setObj_map _ hb, Result.andThen, setBlock]
    · simp [Instr.mapUpdate, run_underlying ht, MapKept.run_getObj_map hb, law_key0.check w false hkey, h1, hj, h3, law_key0.stays w hkey, MapKept.run_setObj_map _ hb, Result.andThen, setBlock]
    · simp [Instr.lookup, run_underlying ht, MapKept.run_getObj_map hb, law_key0.check w _ hkey, h1, Result.andThen]

/-- 'm[k] += v': the entry is come to, and then written. -/
theorem OwnsV.entry {w : World} {lb : Nat} {lv : Lv} (h : OwnsV w lb lv) (hv : OkV lv) {k : Kb} (hk : OkK k) (hn : lv.length < maxLen) :
    ∃ (v0 st : Value) (w1 : World), (Instr.mapEntry 91 (.map (some lb)) (.agg #[.int .i64 k.1, .string ⟨k.2.1.toArray⟩, .string ⟨k.2.2.toArray⟩])).run Tryz.prog w = .ok (.tuple #[v0, st]) w1 ∧ w.grownBy w1 (some lb) ∧
      (Instr.lookup 91 (.map (some lb)) (.agg #[.int .i64 k.1, .string ⟨k.2.1.toArray⟩, .string ⟨k.2.2.toArray⟩]) false).run Tryz.prog w1 = .ok (.int .i64 (levOf lv k : Nat)) w1 ∧
      ∀ v : Nat, ∃ w2, (Instr.entryStore 91 (.map (some lb)) st (.int .i64 v)).run Tryz.prog w1 = .ok () w2 ∧ OwnsV w2 lb (putV lv k v) ∧ w.grownBy w2 (some lb) := by
  have hl0 := look_lev h hv hk
  obtain ⟨D, hD, hr⟩ := h
  have hD0 := hD
  obtain ⟨es, clock, hb, F, hs, hDe⟩ := hD
  obtain ⟨v0, st, es1, clock1, h1, _, h3⟩ := WideElems.entry_then_store law_key0 Tryz.underlying91 zero_int hb F (keyOf_key k hk)
  obtain ⟨u0, ut, u1, f1, f2, f3⟩ := entry_as_update hb F hk
  rw [h1] at f1
  rw [hl0] at f3
  cases f3
  cases f1
  obtain ⟨w', e3, ho, hg⟩ := hD0.update law_key Tryz.underlying91 hn (keyOf_key k hk) (levR_mk (levOf lv k))
  rw [f2] at e3
  cases e3
  refine ⟨_, goInt st, _, h1, hg, ?_, fun v => ?_⟩
  · obtain ⟨x, ps, hrun, hx⟩ := ho.lookup law_key Tryz.underlying91 (zero_int _) (levR_mk 0) (keyOf_key k hk)
    rw [atKey_put_same hD0.isMap (klb_key k)] at hx
    rw [levR_inv hx] at hrun
    exact hrun
  · obtain ⟨es', clock', e1, e2⟩ := h3 (setBlock w lb (.map es1 clock1)) (.int .i64 v) (heap_setBlock_same hb _)
    obtain ⟨w', e3, ho, hg⟩ := hD0.update law_key Tryz.underlying91 hn (keyOf_key k hk) (levR_mk v)
    have e4 : w' = setBlock w lb (.map es' clock') := by rw [e2] at e3; cases e3; rfl
    have hsame : setBlock (setBlock w lb (.map es1 clock1)) lb (.map es' clock') = setBlock w lb (.map es' clock') := by
      simp [setBlock]
    refine ⟨_, e1, ?_, ?_⟩
    · rw [hsame, ← e4]
      exact OwnsV.of ho (hr.put hD0.isMap (hD0.tidy law_key) hv hk v)
    · rw [hsame, ← e4]; exact hg

end Go.Proofs.YthmhfilkgggagaaGreatDoor

namespace Go.Proofs.YthmhfilkgggagaaGreatDoor
open Go.RowKit Go.Maps Go.Sort Go.ChangeMaps Go.MapKept

theorem grown_none {w w' : World} (h : w.grownBy w' none) (row : Option Nat) : w.grownBy w' row := ⟨h.os, h.tape, h.output, h.size, fun k hk _ => h.block k hk (by simp)⟩

set_option maxRecDepth 100000 in
set_option maxHeartbeats 1000000 in
theorem charge_any (lb : Nat) (lv : Lv) (c : Nat) (org ten : List UInt8) (cost : Nat) (w : World) (h : OwnsV w lb lv) (hv : OkV lv) (hk : OkK (c, org, ten)) (hn : lv.length ≤ 1000) (hc : cost ≤ 1000000) :
    Calls Tryz.prog 83 #[.map (some lb), .agg #[.int .i64 c, .string ⟨org.toArray⟩, .string ⟨ten.toArray⟩], .int .i64 cost] w fun e w' => e = .returned (.tuple #[]) ∧ OwnsV w' lb (putV lv (c, org, ten) (levOf lv (c, org, ten) + cost * 1000000000)) ∧ w.grownBy w' (some lb) := by
  have hlv : levOf lv (c, org, ten) ≤ 1000000000000000 := by
    rcases levOf_cases hv (c, org, ten) with ⟨h1, _⟩ | ⟨x, hx, _, h1⟩
    · omega
    · rw [h1]; exact (hv.pos x hx).2
  have hcl := hide (fun W => keyClone_any c org ten W hk.2.1 hk.2.2)
  have hlook := hide (fun (W : World) (hW : OwnsV W lb lv) => look_lev hW hv hk)
  have hent := hide (fun (W : World) (hW : OwnsV W lb lv) => hW.entry hv hk (by unfold maxLen; omega))
  generalize hL : levOf lv (c, org, ten) = L at *
  have HO := hide h
  have hlt := h.lt
  clear h hL hv hk
  go_enter Tryz.func83, Tryz.ntmps83
  go_wp2_with fail
  have K3 := hide (Three.made w (.int .i64 c) (.string ⟨org.toArray⟩) (.string ⟨ten.toArray⟩) 118)
  obtain ⟨k0, k1, k2, -, -, -, kn⟩ := unhide K3
  have hne : ¬ lb = w.heap.size := by omega
  have hw1 : IntKind.i64.wrap ((cost : Int) * 1000000000) = (cost : Int) * 1000000000 := IntWalk.i64_in _ ⟨by omega, by omega⟩
  have hw2 : IntKind.i64.wrap ((L : Int) + (cost : Int) * 1000000000) = (L : Int) + (cost : Int) * 1000000000 := IntWalk.i64_in _ ⟨by omega, by omega⟩
  go_region_held3 (fun w' => w'.cell? ⟨w.heap.size, 0, none⟩ = some (.int .i64 c) ∧ w'.cell? ⟨w.heap.size, 1, none⟩ = some (.string ⟨org.toArray⟩) ∧ w'.cell? ⟨w.heap.size, 2, none⟩ = some (.string ⟨ten.toArray⟩)) (go_keep)
    (first
      | (go_at_call 122; refine (unhide hcl _).mono ?_; rintro e w1 ⟨rfl, hb1⟩; have HB1 := hide hb1; obtain ⟨p0, p1, p2, -, -, -, pn⟩ := Three.keep (W := (w.alloc (.cells #[.int .i64 c, .string ⟨org.toArray⟩, .string ⟨ten.toArray⟩] 118)).drew) (unhide K3) hb1 kn; have hg0 : w.grownBy w1 none := ((World.grownBy_alloc w (.cells #[.int .i64 c, .string ⟨org.toArray⟩, .string ⟨ten.toArray⟩] 118) none).trans (grown_drew none)).trans (grown_below hb1); have ho1 : OwnsV w1 lb lv := (unhide HO).kept hg0 (by simp); have hlk := unhide hlook w1 ho1; unfold keyV at hlk; obtain ⟨v0, st, w2, hme, hg2, hlk2, hst⟩ := unhide hent w1 ho1; obtain ⟨w3, hes, ho3, hg3⟩ := hst (L + cost * 1000000000); have hes2 : (Instr.entryStore 91 (.map (some lb)) st (.int .i64 ((L : Int) + (cost : Int) * 1000000000))).run Tryz.prog w2 = .ok () w3 := (by rw [← hes]; simp); obtain ⟨q0, q1, q2⟩ : w2.cell? ⟨w.heap.size, 0, none⟩ = some (.int .i64 c) ∧ w2.cell? ⟨w.heap.size, 1, none⟩ = some (.string ⟨org.toArray⟩) ∧ w2.cell? ⟨w.heap.size, 2, none⟩ = some (.string ⟨ten.toArray⟩) := ⟨(World.cell?_of_block (a := ⟨w.heap.size, 0, none⟩) (hg2.block _ pn (by simpa using fun e => hne e.symm))).trans p0, (World.cell?_of_block (a := ⟨w.heap.size, 1, none⟩) (hg2.block _ pn (by simpa using fun e => hne e.symm))).trans p1, (World.cell?_of_block (a := ⟨w.heap.size, 2, none⟩) (hg2.block _ pn (by simpa using fun e => hne e.symm))).trans p2⟩; obtain ⟨r0, r1, r2⟩ : w3.cell? ⟨w.heap.size, 0, none⟩ = some (.int .i64 c) ∧ w3.cell? ⟨w.heap.size, 1, none⟩ = some (.string ⟨org.toArray⟩) ∧ w3.cell? ⟨w.heap.size, 2, none⟩ = some (.string ⟨ten.toArray⟩) := ⟨(World.cell?_of_block (a := ⟨w.heap.size, 0, none⟩) (hg3.block _ pn (by simpa using fun e => hne e.symm))).trans p0, (World.cell?_of_block (a := ⟨w.heap.size, 1, none⟩) (hg3.block _ pn (by simpa using fun e => hne e.symm))).trans p1, (World.cell?_of_block (a := ⟨w.heap.size, 2, none⟩) (hg3.block _ pn (by simpa using fun e => hne e.symm))).trans p2⟩; have HO3 := hide ho3; have HG := hide ((grown_none hg0 (some lb)).trans hg3); clear hb1 hg0 ho1 hes hst ho3 hg3 hg2))
  all_goals
    go_wp2
    go_end0
    exact ⟨rfl, unhide HO3, unhide HG⟩

end Go.Proofs.YthmhfilkgggagaaGreatDoor

namespace Go.Proofs.YthmhfilkgggagaaGreatDoor
open Go.RowKit Go.Maps Go.Sort

def keyC (k : Kb) : List Value := [.int .i64 k.1, .string ⟨k.2.1.toArray⟩, .string ⟨k.2.2.toArray⟩]
def keyAll (l : List Kb) : List Value := l.flatMap keyC

theorem keyAll_at : ∀ (l : List Kb) (k : Nat) (hk : k < l.length) (j : Nat), j < 3 → (keyAll l)[k * 3 + j]? = (keyC l[k])[j]?
  | [], k, hk, _, _ => by simp at hk
  | x :: r, 0, _, j, hj => by
    show (keyC x ++ keyAll r)[0 * 3 + j]? = _
    rw [List.getElem?_append_left (by simp [keyC]; omega)]; simp
  | x :: r, k + 1, hk, j, hj => by
    show (keyC x ++ keyAll r)[(k + 1) * 3 + j]? = _
    rw [List.getElem?_append_right (by simp [keyC]; omega)]
    have e : (k + 1) * 3 + j - (keyC x).length = k * 3 + j := by simp [keyC]; omega
    rw [e, keyAll_at r k (by simpa using hk) j hj]; rfl

/-- How many of these buckets are empty. -/
def emptyN (lv : Lv) (ks : List Kb) : Nat := ks.countP fun k => decide (levOf lv k = 0)

theorem emptyN_take (lv : Lv) (ks : List Kb) (i : Nat) (hi : i < ks.length) : emptyN lv (ks.take (i + 1)) = emptyN lv (ks.take i) + if levOf lv ks[i] = 0 then 1 else 0 := by
  unfold emptyN
  rw [List.take_succ_eq_append_getElem hi, List.countP_append]
  congr 1
  by_cases h : levOf lv ks[i] = 0
  · rw [if_pos h]; simp [h]
  · rw [if_neg h]; simp [h]

theorem emptyN_le (lv : Lv) (ks : List Kb) : emptyN lv ks ≤ ks.length := List.countP_le_length

set_option maxRecDepth 100000 in
set_option maxHeartbeats 1000000 in
theorem haveRoom_any (lb : Nat) (lv : Lv) (ks : List Kb) (g cap : Nat) (w : World) (h : OwnsV w lb lv) (hv : OkV lv) (hn : lv.length ≤ 1000) (hc : ∀ j u, (keyAll ks)[j]? = some u → w.cell? ⟨g, j, none⟩ = some u) (hg : g < w.heap.size) (hks : ks.length ≤ 1000) (hok : ∀ k ∈ ks, OkK k) :
    Calls Tryz.prog 80 #[.map (some lb), .slice (some ⟨g, 0, none⟩) ks.length cap] w fun e w' => e = .returned (.bool (decide (lv.length + emptyN lv ks ≤ 64))) ∧ Below w.heap.size w w' := by
  obtain ⟨D, hD, hr⟩ := h
  have hsz := hr.size
  have HO := hide (OwnsV.of hD hr)
  have HC := hide hc; have HK := hide hok
  have hlenD := hide (hD.len Tryz.underlying91)
  have hlen : ∀ ty, (Builtin.len_ #[91] ty #[.map (some lb)]).run Tryz.prog w = .ok (.int .i64 (lv.length : Nat)) w := fun ty => by rw [unhide hlenD ty, hsz]
  clear hc hok hD hr hsz hlenD
  go_enter Tryz.func80, Tryz.ntmps80
  go_wp2_with fail
  go_loopw [5, 12] (fun vf vi wr => ∃ i : Nat, i ≤ ks.length ∧ vi = .int .i64 i ∧ vf = .int .i64 (lv.length + emptyN lv (ks.take i) : Nat) ∧ Below w.heap.size w wr) (fun _ vi _ => ks.length - (intOf vi).toNat)
  case atStart => exact ⟨0, Nat.zero_le _, rfl, by simp [emptyN], Below.refl _ _⟩
  case round =>
    obtain ⟨i, hi, rfl, rfl, hbw⟩ := hrel
    have hle := emptyN_le lv (ks.take i)
    rw [List.length_take] at hle
    by_cases hlt : i < ks.length
    · have hii : (i : Int) < (ks.length : Int) := by omega
      have hcell : ∀ j, j < 3 → ∀ u, (keyC ks[i])[j]? = some u → wr.cell? ⟨g, i * 3 + j, none⟩ = some u := by
        intro j hj u hu
        rw [hbw.cell (p := ⟨g, i * 3 + j, none⟩) hg]
        exact unhide HC _ _ (by rw [keyAll_at ks i hlt j hj]; exact hu)
      have c0 : wr.cell? ⟨g, i * 3, none⟩ = some (.int .i64 ks[i].1) := hcell 0 (by omega) _ rfl
      have c1 := hcell 1 (by omega) _ rfl
      have c2 := hcell 2 (by omega) _ rfl
      have hlk : ∀ o, (Instr.lookup 91 (.map (some lb)) (.agg #[.int .i64 ks[i].1, .string ⟨ks[i].2.1.toArray⟩, .string ⟨ks[i].2.2.toArray⟩]) false).run Tryz.prog (wr.alloc o) = .ok (.int .i64 (levOf lv ks[i] : Nat)) (wr.alloc o) :=
        fun o => look_lev (w := wr.alloc o) ((unhide HO).kept ((grown_below hbw).trans (World.grownBy_alloc wr o none)) (by simp)) hv (unhide HK _ (List.getElem_mem hlt))
      have hft := emptyN_take lv ks i hlt
      have HB := hide hbw
      have hws := hbw.size
      clear hcell hbw
      by_cases hp : levOf lv ks[i] = 0
      · rw [if_pos hp] at hft
        rw [hp] at hlk
        have HFT := hide hft
        generalize emptyN lv (ks.take i) = m at *
        generalize ks[i] = K at *
        clear hft hp
        go_wp2
        go_roundw
        case rel => exact ⟨i + 1, by omega, by go_num, by rw [unhide HFT]; go_num, (unhide HB).alloc (unhide HB).size _⟩
        case measure => simp [intOf]; omega
      · rw [if_neg hp] at hft
        have HFT := hide hft
        have q : ¬ ((levOf lv ks[i] : Nat) : Int) = 0 := by omega
        generalize emptyN lv (ks.take i) = m at *
        generalize levOf lv ks[i] = L at *
        generalize ks[i] = K at *
        clear hft
        go_wp2
        go_roundw
        case rel => exact ⟨i + 1, by omega, by go_num, by rw [unhide HFT]; rfl, (unhide HB).alloc (unhide HB).size _⟩
        case measure => simp [intOf]; omega
    · have hii : ¬ (i : Int) < (ks.length : Int) := by omega
      have HE : Hid (emptyN lv (ks.take i) = emptyN lv ks) := hide (by rw [List.take_of_length_le (by omega)])
      generalize emptyN lv (ks.take i) = m at *
      go_wp2
      go_ret
      exact ⟨ret_bool (by rw [← unhide HE]; simp; omega), hbw⟩

end Go.Proofs.YthmhfilkgggagaaGreatDoor

namespace Go.Proofs.YthmhfilkgggagaaGreatDoor
open Go.RowKit Go.Maps Go.Sort

theorem lim_rate {l : List (Sl.Subj × Sl.Lim)} (h : OkT l) (k : Kb) : (limK l k).rate ≤ 1000000 ∧ (limK l k).burst ≤ 1000000 := by
  unfold limK limitS
  split
  · cases hq : look l ⟨2, k.1, k.2.1, []⟩ with
    | none => exact look_lim h _
    | some m => have := look_lim h ⟨2, k.1, k.2.1, []⟩; rw [hq] at this; exact this
  · cases hq : look l ⟨3, k.1, k.2.1, k.2.2⟩ with
    | none => exact look_lim h _
    | some m => have := look_lim h ⟨3, k.1, k.2.1, k.2.2⟩; rw [hq] at this; exact this

theorem field_rate (a b : Value) (w : World) : (Instr.field 27 (.agg #[a, b]) 0).run Tryz.prog w = .ok a w := by kernel_rfl

abbrev limF (tb : Nat) : Value := .func (.func 46) #[.pointer (some ⟨tb, 0, none⟩)] #[]

set_option maxRecDepth 100000 in
set_option maxHeartbeats 1000000 in
theorem after_any (l : List (Sl.Subj × Sl.Lim)) (tb mb n lb : Nat) (lv : Lv) (d : Nat) (w : World) (hT : IsTable w tb mb n l) (hV : OwnsV w lb lv) (hv : OkV lv) (hfew : lv.length ≤ 1000) (hd : d ≤ 1000000000000) :
    Calls Tryz.prog 52 #[.map (some lb), .int .i64 d, .func (.func 46) #[.pointer (some ⟨tb, 0, none⟩)] #[]] w fun e w' => e = .returned (.map (some w.heap.size)) ∧ OwnsV w' w.heap.size (fallV l d lv) ∧ Below w.heap.size w w' := by
  obtain ⟨D, hD, hR⟩ := hV
  have hlb := hD.lt
  have hsz := hR.size
  obtain ⟨w1, hw1⟩ : ∃ w1, w1 = w.alloc (.map #[] 0) := ⟨_, rfl⟩
  have hmm : (Instr.makeMap 91 (some (.int .i64 (lv.length : Nat)))).run Tryz.prog w = .ok (.map (some w.heap.size)) w1 := by
    rw [hw1]; simp [Instr.makeMap, run_underlying Tryz.underlying91, asInt, asIntOf, Result.andThen]
  have hown1 : OwnsV w1 w.heap.size (fallV l d []) := by rw [hw1]; exact ⟨_, World.ownsMap_made w Tryz.prog 118 levR, ReadsV.empty⟩
  have hD1 : w1.ownsMap Tryz.prog 118 levR lb lv.length D := by rw [hw1]; exact hD.alloc _
  have hb1 : Below w.heap.size w w1 := by rw [hw1]; exact Below.alloc1 w _
  have hz1 : w1.heap.size = w.heap.size + 1 := by rw [hw1]; simp
  have hlenD := hD.len Tryz.underlying91
  have hlen : ∀ ty, (Builtin.len_ #[91] ty #[.map (some lb)]).run Tryz.prog w = .ok (.int .i64 (lv.length : Nat)) w := fun ty => by rw [hlenD ty, hsz]
  have HL := hide (fun (W : World) (hW : IsTable W tb mb n l) (k : Kb) (hk : OkK k) => tabLimit_any l tb mb n k.1 k.2.1 k.2.2 W hW.map hW.own hW.ok.1 hk.1 hk.2.1 hk.2.2)
  have HT := hide hT; have HV := hide hv; have HR := hide hR; have HZ1 := hide hz1; have HO1 := hide hown1; have HB1 := hide hb1
  clear hlenD hT hv hR hw1 hz1 hown1 hb1 hsz
  go_enter Tryz.func52, Tryz.ntmps52
  go_wp2_with (at_range; refine wpList_range_own _ rfl _ 91 rfl 118 3 law_key Tryz.underlying91 levR lb lv.length D rfl hD1 ?_; intro w0 hrg0 hg0 hs0)
  go_frame
  go_loopw [9] (fun _ wr => ∃ (left : Lit → Bool) (cnt : Nat) (acc : Lv), wr.ranges Tryz.prog 118 levR lb w1.heap.size lv.length D left cnt ∧ OwnsV wr w.heap.size (fallV l d acc) ∧ CollV lv left acc ∧ Below w.heap.size w wr)
    (fun _ wr => wr.rangeLeft lb w1.heap.size)
  case atStart =>
    exact ⟨_, _, [], hrg0, (unhide HO1).kept hg0 (by simp), CollV.start (unhide HR), (unhide HB1).grown hg0 (unhide HB1).size (fun j hj => by cases hj)⟩
  case round =>
    obtain ⟨left, cnt, acc, hrg, hout, hC, hnx⟩ := hrel
    have HC := hide hC; have HB := hide hnx; have HOUT := hide hout
    clear hC hnx hout
    go_wp2_with (at_next; refine next_lev rfl _ rfl lb w1.heap.size lv.length D lv left cnt rfl hrg (unhide HR) (unhide HV) acc (unhide HC) ?_ ?_)
    · intro hl0
      have hperm := (unhide HC).done hl0
      have hpf : (fallV l d acc).Perm (fallV l d lv) := hperm.filterMap _
      obtain ⟨D2, hD2, hR2⟩ := unhide HOUT
      have HF := hide (OwnsV.of hD2 (hR2.perm hpf))
      clear hD2 hR2 hpf hperm
      go_wp2
      go_ret
      exact ⟨rfl, unhide HF, unhide HB⟩
    · intro c org ten v left' w2 cnt2 hC2 hx hrg2 hlt hg2 hs2 hen
      have hok := (unhide HV).key _ hx
      have hpos := (unhide HV).pos _ hx
      simp only [] at hok hpos
      have HB2 : Hid (Below w.heap.size w w2) := hide ((unhide HB).grown hg2 (unhide HB).size (fun j hj => by cases hj; have := unhide HZ1; omega))
      have hr1 := (lim_rate (unhide HT).ok (c, org, ten)).1
      have HOUT2 : Hid (OwnsV w2 w.heap.size (fallV l d acc)) := hide ((unhide HOUT).kept hg2 (by have := unhide HZ1; simp; omega))
      have HC2 := hide hC2; have HX := hide hx; have HOK := hide hok; have HG2 := hide hg2; have HRG2 := hide hrg2
      obtain ⟨R, hRr⟩ : ∃ R, R = (limK l (c, org, ten)).rate := ⟨_, rfl⟩
      obtain ⟨U, hUr⟩ : ∃ U, U = (limK l (c, org, ten)).burst := ⟨_, rfl⟩
      rw [← hRr] at hr1
      have hT2 : IsTable (w2.alloc (.cells #[.int .i64 c, .string ⟨org.toArray⟩, .string ⟨ten.toArray⟩] 118)) tb mb n l := (unhide HT).kept ((unhide HB2).alloc (unhide HB2).size _)
      have hcall : Calls Tryz.prog 46 #[.pointer (some ⟨tb, 0, none⟩), .agg #[.int .i64 c, .string ⟨org.toArray⟩, .string ⟨ten.toArray⟩]] (w2.alloc (.cells #[.int .i64 c, .string ⟨org.toArray⟩, .string ⟨ten.toArray⟩] 118)) fun e w' => e = .returned (.agg #[.int .i64 R, .int .i64 U]) ∧ Below (w2.alloc (.cells #[.int .i64 c, .string ⟨org.toArray⟩, .string ⟨ten.toArray⟩] 118)).heap.size (w2.alloc (.cells #[.int .i64 c, .string ⟨org.toArray⟩, .string ⟨ten.toArray⟩] 118)) w' := by
        rw [hRr, hUr]; exact unhide HL _ hT2 (c, org, ten) hok
      have HCA := hide hcall
      obtain ⟨P, hP⟩ : ∃ P, P = d * R := ⟨_, rfl⟩
      have hPI : (d : Int) * (R : Int) = (P : Int) := by rw [hP]; simp
      have hPb : P ≤ 1000000000000000000 := by rw [hP]; exact Nat.mul_le_mul hd hr1
      have K3 := hide (Three.made w2 (.int .i64 c) (.string ⟨org.toArray⟩) (.string ⟨ten.toArray⟩) 118)
      have HPR : Hid (P = d * (limK l (c, org, ten)).rate) := hide (by rw [hP, hRr])
      have hzw : w.heap.size + 1 ≤ wr.heap.size := by have h1 := unhide HZ1; have h2 := (unhide HRG2).lt; omega
      have hfd : ∀ W : World, (Instr.field 27 (.agg #[.int .i64 R, .int .i64 U]) 0).run Tryz.prog W = .ok (.int .i64 R) W := fun W => field_rate _ _ W
      clear hC2 hx hg2 hrg2 hok hT2 hcall hRr hUr hP
      go_wp2_with fail
      refine (unhide HCA).mono ?_
      rintro e w3 ⟨rfl, hb3⟩
      have hk3 := (unhide K3).keep hb3 (unhide K3).2.2.2.2.2.2
      rw [hs2] at hk3
      obtain ⟨k0, k1, k2, -, -, -, -⟩ := hk3
      have hgr3 : w2.grownBy w3 none := (World.grownBy_alloc w2 (.cells #[.int .i64 c, .string ⟨org.toArray⟩, .string ⟨ten.toArray⟩] 118) none).trans (grown_below hb3)
      have hrg3 := (unhide HRG2).kept hgr3 (by simp) (by simp)
      have hbw3 : Below w.heap.size w w3 := ((unhide HB2).alloc (unhide HB2).size _).trans (hb3.mono (by have := (unhide HB2).size; simp; omega))
      obtain ⟨D2, hD2, hR2⟩ := (unhide HOUT2).kept hgr3 (by simp)
      have HB3 := hide hbw3; have HR2 := hide hR2; have HRG3 := hide hrg3
      have hfl := fallV_len l d acc
      have hal := ((unhide HC).ok (unhide HV)).2
      clear hb3 hgr3 hrg3 hbw3 hR2
      by_cases hlt2 : P < v
      · have q : (0 : Int) < (v : Int) - (P : Int) := by omega
        have hvp : (v : Int) - (P : Int) = ((v - P : Nat) : Int) := by omega
        have hval : levR (.int .i64 ((v : Int) - (P : Int))) = some (levD (v - P), []) := by rw [hvp]; rfl
        clear hvp
        go_wp2_with (at_mapUpdate; refine wpList_mapUpdate_own _ rfl _ _ _ 91 rfl 118 3 law_key Tryz.underlying91 levR w.heap.size (fallV l d acc).length D2 rfl hD2 (by unfold maxLen; omega) (.agg #[.int .i64 c, .string ⟨org.toArray⟩, .string ⟨ten.toArray⟩]) (.int .i64 ((v : Int) - (P : Int))) (klb (c, org, ten)) rfl rfl (keyOf_key _ (unhide HOK)) (levD (v - P)) [] hval ?_; intro w4 hown4 hgrow4; go_frame)
        go_roundw
        case rel =>
          have hgr4 := (unhide HRG3).kept hgrow4 (by simp; omega) (by have := unhide HZ1; simp; omega)
          refine ⟨left', cnt2, acc ++ [((c, org, ten), v)], hgr4, ?_, unhide HC2, (unhide HB3).grown hgrow4 (unhide HB3).size (fun j hj => by cases hj; exact Nat.le_refl _)⟩
          have hokf : OkV (fallV l d acc) := ((unhide HC).ok (unhide HV)).1.fall l d
          have hfr : ∀ y ∈ fallV l d acc, y.1 ≠ (c, org, ten) := by
            intro y hy
            obtain ⟨z, hz, _, rfl⟩ := fallV_mem.1 hy
            exact CollV.fresh (unhide HV) (unhide HC2) z hz
          have hput := (unhide HR2).put hD2.isMap (hD2.tidy law_key) hokf (unhide HOK) (v - P)
          have e5 : putV (fallV l d acc) (c, org, ten) (v - P) = fallV l d (acc ++ [((c, org, ten), v)]) := by
            rw [fallV_snoc]
            unfold putV
            rw [filter_none hfr]
            simp only []
            rw [← unhide HPR, if_pos hlt2]
          rw [e5] at hput
          exact OwnsV.of hown4 hput
        case measure =>
          have hgr4 := (unhide HRG3).kept hgrow4 (by simp; omega) (by have := unhide HZ1; simp; omega)
          rw [hgr4.left_eq, hrg.left_eq]; omega
      · have q : ¬ (0 : Int) < (v : Int) - (P : Int) := by omega
        go_wp2
        go_roundw
        case rel =>
          refine ⟨left', cnt2, acc ++ [((c, org, ten), v)], unhide HRG3, ?_, unhide HC2, unhide HB3⟩
          have e5 : fallV l d (acc ++ [((c, org, ten), v)]) = fallV l d acc := by
            rw [fallV_snoc]
            simp only []
            rw [← unhide HPR, if_neg hlt2]; simp
          rw [e5]
          exact OwnsV.of hD2 (unhide HR2)
        case measure =>
          rw [(unhide HRG3).left_eq, hrg.left_eq]; omega

end Go.Proofs.YthmhfilkgggagaaGreatDoor

namespace Go.Proofs.YthmhfilkgggagaaGreatDoor
open Go.RowKit Go.Maps Go.Sort

/-- What stands while a request is decided: the table, the levels, the two keys, the answer's block; As: blocks of limits that have been laid, and not yet written. -/
structure Ad (l : List (Sl.Subj × Sl.Lim)) (tb mb n lb : Nat) (lv : Lv) (w0 : World) (kb rb ob c : Nat) (O T : ByteArray) (W : World) (As : List Nat) : Prop where
  table : IsTable W tb mb n l
  lev : OwnsV W lb lv
  key : Three W kb (.int .i64 c) (.string O) (.string T)
  okey : Three W ob (.int .i64 c) (.string O) (.string ⟨#[]⟩)
  res : Three W rb (.int .i64 0) (.int .i64 0) (.int .i64 0)
  below : Below w0.heap.size w0 W
  each : ∀ a ∈ As, Two W a (.int .i64 0) (.int .i64 0) ∧ w0.heap.size ≤ a ∧ ¬ a = kb ∧ ¬ a = ob ∧ ¬ a = rb
  nodup : As.Nodup

section
variable {l : List (Sl.Subj × Sl.Lim)} {tb mb n lb : Nat} {lv : Lv} {w0 : World} {kb rb ob c : Nat} {O T : ByteArray} {W : World} {As : List Nat}

theorem Ad.call (h : Ad l tb mb n lb lv w0 kb rb ob c O T W As) {w' : World} (hb : Below W.heap.size W w') : Ad l tb mb n lb lv w0 kb rb ob c O T w' As :=
  ⟨h.table.kept hb, h.lev.kept (grown_below (row := none) hb) (by simp), h.key.keep hb h.key.2.2.2.2.2.2, h.okey.keep hb h.okey.2.2.2.2.2.2, h.res.keep hb h.res.2.2.2.2.2.2, h.below.trans (hb.mono h.below.size),
    fun a ha => ⟨(h.each a ha).1.keep hb (h.each a ha).1.2.2.2.2, (h.each a ha).2⟩, h.nodup⟩

theorem Ad.alloc (h : Ad l tb mb n lb lv w0 kb rb ob c O T W As) (t : TypeId) : Ad l tb mb n lb lv w0 kb rb ob c O T (W.alloc (.cells #[.int .i64 0, .int .i64 0] t)) (W.heap.size :: As) := by
  have h1 := h.call (Below.alloc1 W (.cells #[.int .i64 0, .int .i64 0] t))
  refine ⟨h1.table, h1.lev, h1.key, h1.okey, h1.res, h1.below, fun a ha => ?_, List.nodup_cons.2 ⟨fun hm => ?_, h.nodup⟩⟩
  · rcases List.mem_cons.1 ha with rfl | ha
    · have a1 := h.key.2.2.2.2.2.2; have a2 := h.okey.2.2.2.2.2.2; have a3 := h.res.2.2.2.2.2.2
      exact ⟨Two.made W _ _ t, h.below.size, by omega, by omega, by omega⟩
    · exact h1.each a ha
  · have := (h.each _ hm).1.2.2.2.2; omega

theorem Ad.alloc2 (h : Ad l tb mb n lb lv w0 kb rb ob c O T W As) (t t' : TypeId) : Ad l tb mb n lb lv w0 kb rb ob c O T ((W.alloc (.cells #[.int .i64 0, .int .i64 0] t)).alloc (.cells #[.int .i64 0, .int .i64 0] t')) ((W.heap.size + 1) :: W.heap.size :: As) := by
  have := (h.alloc t).alloc t'
  simpa using this

theorem Ad.drew (h : Ad l tb mb n lb lv w0 kb rb ob c O T W As) : Ad l tb mb n lb lv w0 kb rb ob c O T W.drew As :=
  ⟨h.table.kept ((Below.refl _ _).drew), h.lev.kept (grown_drew none) (by simp), h.key, h.okey, h.res, h.below.drew, h.each, h.nodup⟩

/-- A block of limits is written: it is no longer of those that are not. -/
theorem Ad.write (h : Ad l tb mb n lb lv w0 kb rb ob c O T W As) {a : Nat} (ha : a ∈ As) (x y : Value) {Bs : List Nat} (hB : ∀ b ∈ Bs, b ∈ As ∧ b ≠ a) (hn : Bs.Nodup) (hne : ¬ a = tb ∧ ¬ a = mb ∧ ¬ a = lb) :
    Ad l tb mb n lb lv w0 kb rb ob c O T ((W.setCell ⟨a, 0, none⟩ x).setCell ⟨a, 1, none⟩ y) Bs := by
  obtain ⟨t1, t2, t3, t4, t5⟩ := h.each a ha
  have hg : W.grownBy ((W.setCell ⟨a, 0, none⟩ x).setCell ⟨a, 1, none⟩ y) (some a) := (grown_set W a 0 x).trans (grown_set _ a 1 y)
  have hk : ∀ {b : Nat} {p q r : Value}, Three W b p q r → ¬ a = b → Three ((W.setCell ⟨a, 0, none⟩ x).setCell ⟨a, 1, none⟩ y) b p q r := by
    intro b p q r h3 hne
    have hb := hg.block b h3.2.2.2.2.2.2 (by simpa using fun e => hne e.symm)
    refine ⟨(World.cell?_of_block (a := ⟨b, 0, none⟩) hb).trans h3.1, (World.cell?_of_block (a := ⟨b, 1, none⟩) hb).trans h3.2.1, (World.cell?_of_block (a := ⟨b, 2, none⟩) hb).trans h3.2.2.1, ?_, ?_, ?_, Nat.lt_of_lt_of_le h3.2.2.2.2.2.2 hg.size⟩
    · simpa using h3.2.2.2.1
    · simpa using h3.2.2.2.2.1
    · simpa using h3.2.2.2.2.2.1
  refine ⟨h.table.blocks hg (by simpa using fun e => hne.1 e.symm) (by simpa using fun e => hne.2.1 e.symm), h.lev.kept hg (by simpa using fun e => hne.2.2 e.symm), hk h.key t3, hk h.okey t4, hk h.res t5, (h.below.setCell t2 _).setCell t2 _, fun b hb => ?_, hn⟩
  obtain ⟨h1, h2⟩ := hB b hb
  obtain ⟨u1, u2⟩ := h.each b h1
  refine ⟨?_, u2⟩
  have hbb := hg.block b u1.2.2.2.2 (by simpa using h2)
  exact ⟨(World.cell?_of_block (a := ⟨b, 0, none⟩) hbb).trans u1.1, (World.cell?_of_block (a := ⟨b, 1, none⟩) hbb).trans u1.2.1, by simpa using u1.2.2.1, by simpa using u1.2.2.2.1, Nat.lt_of_lt_of_le u1.2.2.2.2 hg.size⟩

theorem two_written {W : World} {a : Nat} {p q : Value} (h : Two W a p q) (x y : Value) : Two ((W.setCell ⟨a, 0, none⟩ x).setCell ⟨a, 1, none⟩ y) a x y := by
  obtain ⟨h1, h2, h3, h4, h5⟩ := h
  refine ⟨?_, ?_, by simpa using h3, by simpa using h4, by simpa using h5⟩
  · rw [World.cell?_setCell_other _ ⟨a, 1, none⟩ ⟨a, 0, none⟩ _ (by simp)]
    exact World.cell?_setCell_same W ⟨a, 0, none⟩ x h1
  · exact World.cell?_setCell_same _ ⟨a, 1, none⟩ y ((World.cell?_setCell_other _ ⟨a, 0, none⟩ ⟨a, 1, none⟩ _ (by simp)).trans h2)

theorem two_other {W : World} {a b : Nat} {p q : Value} (h : Two W b p q) (hne : ¬ a = b) (x y : Value) : Two ((W.setCell ⟨a, 0, none⟩ x).setCell ⟨a, 1, none⟩ y) b p q := by
  have hg : W.grownBy ((W.setCell ⟨a, 0, none⟩ x).setCell ⟨a, 1, none⟩ y) (some a) := (grown_set W a 0 x).trans (grown_set _ a 1 y)
  have hbb := hg.block b h.2.2.2.2 (by simpa using fun e => hne e.symm)
  exact ⟨(World.cell?_of_block (a := ⟨b, 0, none⟩) hbb).trans h.1, (World.cell?_of_block (a := ⟨b, 1, none⟩) hbb).trans h.2.1, by simpa using h.2.2.1, by simpa using h.2.2.2.1, Nat.lt_of_lt_of_le h.2.2.2.2 hg.size⟩

/-- Both limits are laid and written. -/
structure Ad2 (l : List (Sl.Subj × Sl.Lim)) (tb mb n lb : Nat) (lv : Lv) (w0 : World) (kb rb ob c : Nat) (O T : ByteArray) (lo lt : Sl.Lim) (W : World) (A B : Nat) : Prop where
  ad : Ad l tb mb n lb lv w0 kb rb ob c O T W []
  one : Two W A (.int .i64 lo.rate) (.int .i64 lo.burst)
  two : Two W B (.int .i64 lt.rate) (.int .i64 lt.burst)
  lowA : w0.heap.size ≤ A
  lowB : w0.heap.size ≤ B

theorem Ad.both (h : Ad l tb mb n lb lv w0 kb rb ob c O T W As) {A B : Nat} (hA : A ∈ As) (hB : B ∈ As) (hne : ¬ A = B) (h1 : tb < w0.heap.size) (h2 : mb < w0.heap.size) (h3 : lb < w0.heap.size) (lo lt : Sl.Lim) :
    Ad2 l tb mb n lb lv w0 kb rb ob c O T lo lt ((((W.setCell ⟨A, 0, none⟩ (.int .i64 lo.rate)).setCell ⟨A, 1, none⟩ (.int .i64 lo.burst)).setCell ⟨B, 0, none⟩ (.int .i64 lt.rate)).setCell ⟨B, 1, none⟩ (.int .i64 lt.burst)) A B := by
  obtain ⟨a1, a2, _⟩ := h.each A hA
  obtain ⟨b1, b2, _⟩ := h.each B hB
  have g1 := h.write hA (.int .i64 lo.rate) (.int .i64 lo.burst) (Bs := [B]) (fun b hb => by simp at hb; subst hb; exact ⟨hB, fun e => hne e.symm⟩) (by simp) ⟨by omega, by omega, by omega⟩
  have g2 := g1.write (a := B) (by simp) (.int .i64 lt.rate) (.int .i64 lt.burst) (Bs := []) (fun b hb => by simp at hb) (by simp) ⟨by omega, by omega, by omega⟩
  exact ⟨g2, two_other (two_written a1 _ _) (fun e => hne e.symm) _ _, two_written (two_other b1 hne _ _) _ _, a2, b2⟩

end

theorem Ad.first {l : List (Sl.Subj × Sl.Lim)} {tb mb n lb : Nat} {lv : Lv} {w0 : World} {kb rb ob c : Nat} {O T : ByteArray} {W : World} {a : Nat} {r : List Nat} (h : Ad l tb mb n lb lv w0 kb rb ob c O T W (a :: r)) :
    W.cell? ⟨a, 0, none⟩ = some (.int .i64 0) ∧ W.cell? ⟨a, 1, none⟩ = some (.int .i64 0) ∧ W.frozen? ⟨a, 0, none⟩ = false ∧ W.frozen? ⟨a, 1, none⟩ = false ∧ a < W.heap.size ∧ (¬ a = W.heap.size ∧ ¬ W.heap.size = a ∧ ¬ a = W.heap.size + 1 ∧ ¬ W.heap.size + 1 = a) ∧ ¬ a = kb ∧ ¬ a = ob ∧ ¬ a = rb := by
  obtain ⟨⟨h0, h1, h2, h3, h4⟩, _, h5⟩ := h.each a (by simp)
  exact ⟨h0, h1, h2, h3, h4, ⟨by omega, by omega, by omega, by omega⟩, h5⟩

theorem Ad.second {l : List (Sl.Subj × Sl.Lim)} {tb mb n lb : Nat} {lv : Lv} {w0 : World} {kb rb ob c : Nat} {O T : ByteArray} {W : World} {a b : Nat} {r : List Nat} (h : Ad l tb mb n lb lv w0 kb rb ob c O T W (a :: b :: r)) :
    W.cell? ⟨b, 0, none⟩ = some (.int .i64 0) ∧ W.cell? ⟨b, 1, none⟩ = some (.int .i64 0) ∧ W.frozen? ⟨b, 0, none⟩ = false ∧ W.frozen? ⟨b, 1, none⟩ = false ∧ b < W.heap.size ∧ (¬ b = W.heap.size ∧ ¬ W.heap.size = b ∧ ¬ b = W.heap.size + 1 ∧ ¬ W.heap.size + 1 = b) ∧ (¬ b = kb ∧ ¬ b = ob ∧ ¬ b = rb) ∧ ¬ a = b ∧ ¬ b = a := by
  obtain ⟨⟨h0, h1, h2, h3, h4⟩, _, h5⟩ := h.each b (by simp)
  have hn := (List.nodup_cons.1 h.nodup).1
  simp at hn
  exact ⟨h0, h1, h2, h3, h4, ⟨by omega, by omega, by omega, by omega⟩, h5, hn.1, fun e => hn.1 e.symm⟩

end Go.Proofs.YthmhfilkgggagaaGreatDoor

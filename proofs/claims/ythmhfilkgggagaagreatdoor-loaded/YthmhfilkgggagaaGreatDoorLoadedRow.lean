/-
  The row of Loaded, out of the contract of the call.
-/
import Derived.Test.YthmhfilkgggagaaGreatDoorWrA
namespace Go.Proofs.YthmhfilkgggagaaGreatDoor
open Go.RowKit Go.ChangeShapes Go.WideShapes Go.ChangeAt Go.WideMaps Go.WideElems
open Go.ChangeMaps (open_string shut_string)

/-- What the call of Loaded does: it returns true and writes into nothing that was there. -/
def LoadedCalls : Prop := ∀ (sp : Option Addr) (n cap : Nat) (w : World), (∃ m, w.cell? ⟨1, 0, none⟩ = some (.int .i64 m)) → Lib.TabIs Tryz.prog w "internal/strconv.uint64pow10" .u64 Lib.pow10Tab → 7 ≤ w.heap.size → n ≤ 1466015503701 →
    (0 < n → ∃ b off, sp = some ⟨b, off, none⟩ ∧ b < w.heap.size ∧ ∀ i, i < n → ∃ (k m a : Int) (s t u : List UInt8) (lp : Option Addr) (ln lc : Nat),
      w.cell? ⟨b, off + i * 7, none⟩ = some (.int .i64 k) ∧ w.cell? ⟨b, off + i * 7 + 1, none⟩ = some (.int .i64 m) ∧ w.cell? ⟨b, off + i * 7 + 2, none⟩ = some (.int .i64 a) ∧ w.cell? ⟨b, off + i * 7 + 3, none⟩ = some (.string ⟨s.toArray⟩) ∧ w.cell? ⟨b, off + i * 7 + 4, none⟩ = some (.string ⟨t.toArray⟩) ∧ w.cell? ⟨b, off + i * 7 + 5, none⟩ = some (.string ⟨u.toArray⟩) ∧ w.cell? ⟨b, off + i * 7 + 6, none⟩ = some (.slice lp ln lc) ∧ t.length ≤ 281474976710656 ∧ u.length ≤ 281474976710656) →
    Calls Tryz.prog 3 #[.slice sp n cap] w fun e w' => e = .returned (.bool true) ∧ Below w.heap.size w w'

theorem rowStr : Tryz.prog.cellsOf 9 = 1 := by kernel_rfl
theorem rowStrs : Tryz.prog.cellsOf 74 = 1 := by kernel_rfl
theorem rowOps : Tryz.prog.cellsOf 87 = 7 := by kernel_rfl
theorem rowOpB : Tryz.prog.bytesOf 87 = 96 := by kernel_rfl

theorem weights_all {H : Type} {P : Program} {e : TypeId} : ∀ {l : List (DataW H)} {d : DataW H}, d ∈ l → ∀ n ∈ d.weights P e, n ∈ DataW.weightsAll P e l
  | a :: r, d, hd, n, hn => by
    simp only [DataW.weightsAll, List.mem_append]
    rcases List.mem_cons.1 hd with rfl | h
    · exact Or.inl hn
    · exact Or.inr (weights_all h n hn)

theorem arr_of (s : ByteArray) : s = ⟨s.data.toList.toArray⟩ := by cases s; simp

set_option maxRecDepth 100000 in
/-- One op of the script, as it reads. -/
theorem open_op {H : Type} {enc : TypeId × Value → H} {W : World} {fuel : Nat} {cs : List Value} {x : DataW H × List MemPlace} (h : DataW.trod enc Tryz.prog W 0 (fun _ => true) true fuel 87 cs = some x) :
    ∃ (k m a : Int) (s t u : ByteArray) (lp : Option Addr) (ln lc : Nat) (d : DataW H), cs = [.int .i64 k, .int .i64 m, .int .i64 a, .string s, .string t, .string u, .slice lp ln lc] ∧ x.1 = .agg [.lit (.int .i64 k), .lit (.int .i64 m), .lit (.int .i64 a), .lit (.string s.data.toList), .lit (.string t.data.toList), .lit (.string u.data.toList), d] := by
  obtain ⟨xs, n, _, rfl, hl, hlen, hf⟩ := DataW.trod_struct Tryz.underlying87 h
  rw [rowOps] at hl
  match cs, hl with
  | [c0, c1, c2, c3, c4, c5, c6], _ =>
    match xs, hlen with
    | [y0, y1, y2, y3, y4, y5, y6], _ =>
      have h0 : DataW.trod enc Tryz.prog W 0 (fun _ => true) true n 3 [c0] = some y0 := by simpa [rowCells] using hf 0 _ rfl
      have h1 : DataW.trod enc Tryz.prog W 0 (fun _ => true) true n 3 [c1] = some y1 := by simpa [rowCells] using hf 1 _ rfl
      have h2 : DataW.trod enc Tryz.prog W 0 (fun _ => true) true n 3 [c2] = some y2 := by simpa [rowCells] using hf 2 _ rfl
      have h3 : DataW.trod enc Tryz.prog W 0 (fun _ => true) true n 9 [c3] = some y3 := by simpa [rowStr] using hf 3 _ rfl
      have h4 : DataW.trod enc Tryz.prog W 0 (fun _ => true) true n 9 [c4] = some y4 := by simpa [rowStr] using hf 4 _ rfl
      have h5 : DataW.trod enc Tryz.prog W 0 (fun _ => true) true n 9 [c5] = some y5 := by simpa [rowStr] using hf 5 _ rfl
      have h6 : DataW.trod enc Tryz.prog W 0 (fun _ => true) true n 74 [c6] = some y6 := by simpa [rowStrs] using hf 6 _ rfl
      obtain ⟨k, e0, f0, _⟩ := DataW.trod_int Tryz.underlying3 h0
      obtain ⟨m, e1, f1, _⟩ := DataW.trod_int Tryz.underlying3 h1
      obtain ⟨a, e2, f2, _⟩ := DataW.trod_int Tryz.underlying3 h2
      obtain ⟨s, e3, f3, _⟩ := DataW.trod_string Tryz.underlying9 h3
      obtain ⟨t, e4, f4, _⟩ := DataW.trod_string Tryz.underlying9 h4
      obtain ⟨u, e5, f5, _⟩ := DataW.trod_string Tryz.underlying9 h5
      obtain ⟨lp, ln, lc, e6⟩ : ∃ lp ln lc, [c6] = [Value.slice lp ln lc] := by
        rcases DataW.trod_slice Tryz.underlying74 h6 with ⟨e, _⟩ | ⟨b, len, cap, _, _, _, _, e, _⟩
        · exact ⟨_, _, _, e⟩
        · exact ⟨_, _, _, e⟩
      simp only [List.cons.injEq, and_true] at e0 e1 e2 e3 e4 e5 e6
      subst e0 e1 e2 e3 e4 e5 e6
      refine ⟨k, m, a, s, t, u, lp, ln, lc, y6.1, rfl, ?_⟩
      simp [f0, f1, f2, f3, f4, f5]

set_option maxRecDepth 100000 in
theorem loaded_lifted (hT : LoadedCalls) (os : Os) (started : os.Started) (H : Type) (enc : TypeId × Value → H) (F : Stop.Interp) :
    ReturnsInLeavingWide { calm := true } Tryz.checked os 3 .any (fun w args => (Rows.loadedSpec.pre enc Tryz.prog Tryz.f3 [] false w args ∧ laidMetH Tryz.prog laidsL w) ∧ sizedMet enc Tryz.prog Tryz.f3 (OpenSpec.ofChange Rows.loadedSpec) false w args)
      ((OpenSpec.ofChange Rows.loadedSpec).postWith enc Tryz.prog Tryz.f3 F (outsideKept [.timePasses]) false true false) := by
  refine wrapped (C := Tryz.checked) (X := fun w _ => laidMetH Tryz.prog laidsL w) (fun _ _ _ hh h => h.of_heap hh) rowOwn started (by kernel_rfl) Tryz.func3
    (witness_calm (enc := enc) (C := Tryz.checked) (os := os) (X := fun w _ => laidMetH Tryz.prog laidsL w) (World.laidAll Tryz.prog os laidsL) #[.slice none 0 0] 8 (World.laidAll_os _ _ _)
      (laidsL_shaped os _) (by kernel_rfl) (by kernel_rfl) (by kernel_rfl) (laidsL_met os _)) ?_
  intro W base args ds gs before hval0 hW hsz hL hsh
  have hval : ∀ (j : Nat) t v, Tryz.f3.params[j]? = some t → args[j]? = some v → Value.okWide Tryz.prog W .any base t v := hval0
  have hW' := hW
  obtain ⟨p, q, hA0, hV, rfl, hfz, hnd⟩ := hW
  have hA : DataW.TrodAll enc Tryz.prog W 0 (fun _ => true) true Tryz.f3.params.toList args.toList ds p := hA0
  rw [Tryz.params3] at hA hval hsz
  obtain ⟨v0, d0, rfl, rfl, h0⟩ := trodAll_one hA
  obtain ⟨rfl, rfl⟩ := trodVars_none hV
  obtain ⟨E1, E2, E3⟩ := env_of_laidL hL hsh
  obtain ⟨sp, n, cap, rfl⟩ := okWide_slice Tryz.underlying22 (hval 0 22 v0 rfl rfl)
  have hlt := hW'.lt
  have hcode : n ≤ 1466015503701 ∧ (0 < n → ∃ b off, sp = some ⟨b, off, none⟩ ∧ b < W.heap.size ∧ ∀ i, i < n → ∃ (k m a : Int) (s t u : List UInt8) (lp : Option Addr) (ln lc : Nat),
      W.cell? ⟨b, off + i * 7, none⟩ = some (.int .i64 k) ∧ W.cell? ⟨b, off + i * 7 + 1, none⟩ = some (.int .i64 m) ∧ W.cell? ⟨b, off + i * 7 + 2, none⟩ = some (.int .i64 a) ∧ W.cell? ⟨b, off + i * 7 + 3, none⟩ = some (.string ⟨s.toArray⟩) ∧ W.cell? ⟨b, off + i * 7 + 4, none⟩ = some (.string ⟨t.toArray⟩) ∧ W.cell? ⟨b, off + i * 7 + 5, none⟩ = some (.string ⟨u.toArray⟩) ∧ W.cell? ⟨b, off + i * 7 + 6, none⟩ = some (.slice lp ln lc) ∧ t.length ≤ 281474976710656 ∧ u.length ≤ 281474976710656) := by
    obtain ⟨fuel, hf⟩ := h0
    rcases DataW.trod_slice Tryz.underlying22 hf with ⟨hcs, _⟩ | ⟨a, len', cap', elems, rest, n1, _, hcs, hx, _, hl, _, hlen, hel, _, _⟩
    · simp [Value.cells] at hcs
      obtain ⟨rfl, rfl, rfl⟩ := hcs
      exact ⟨by omega, fun h => absurd h (by omega)⟩
    · simp [Value.cells] at hcs
      obtain ⟨rfl, rfl, rfl⟩ := hcs
      simp only [Prod.mk.injEq] at hx
      obtain ⟨rfl, _⟩ := hx
      have hb : _ * Tryz.prog.bytesOf 87 ≤ reachBytes := sized_slice hsz (j := 0) rfl rfl Tryz.underlying22
      rw [rowOpB] at hb
      simp [reachBytes] at hb
      have each : ∀ i, i < n → ∃ (k m a' : Int) (s t u : ByteArray) (lp : Option Addr) (ln lc : Nat) (d : DataW H), (∀ j, j < 7 → W.cell? ((a.add (i * 7)).add j) = [Value.int .i64 k, .int .i64 m, .int .i64 a', .string s, .string t, .string u, .slice lp ln lc][j]?) ∧ DataW.agg [.lit (.int .i64 k), .lit (.int .i64 m), .lit (.int .i64 a'), .lit (.string s.data.toList), .lit (.string t.data.toList), .lit (.string u.data.toList), d] ∈ elems.map (·.1) := by
        intro i hi
        have h1 := hel i hi
        rw [rowOps] at h1
        obtain ⟨y, hy⟩ : ∃ y, elems[i]? = some y := ⟨_, List.getElem?_eq_getElem (by omega)⟩
        rw [hy, Option.bind_eq_some_iff] at h1
        obtain ⟨cs, hcs, htr⟩ := h1
        obtain ⟨k, m, a', s, t, u, lp, ln, lc, d, rfl, hyd⟩ := open_op htr
        obtain ⟨_, _, hc⟩ := World.cells?_some hcs
        exact ⟨k, m, a', s, t, u, lp, ln, lc, d, hc, List.mem_map.2 ⟨y, List.mem_of_getElem? hy, hyd⟩⟩
      have hstr : ∀ (x0 x1 x2 x3 : DataW H) (t u : List UInt8) (d : DataW H), DataW.agg [x0, x1, x2, x3, .lit (.string t), .lit (.string u), d] ∈ elems.map (·.1) → t.length ≤ reachBytes ∧ u.length ≤ reachBytes := by
        intro x0 x1 x2 x3 t u d hd
        have key : ∀ n ∈ (DataW.agg [x0, x1, x2, x3, .lit (.string t), .lit (.string u), d]).weights Tryz.prog 87, n ≤ reachBytes := by
          intro n hn
          refine of_decide_eq_true (List.all_eq_true.1 hsz _ (DataW.weights_mem_each (j := 0) (t := 22) rfl rfl _ ?_))
          have hu : Tryz.checked.prog.underlying 22 = some (.slice 87) := Tryz.underlying22
          simp only [DataW.weights, hu, List.mem_cons, List.mem_append]
          exact Or.inr (Or.inl (weights_all hd _ hn))
        exact ⟨key _ (by simp [DataW.weights, Tryz.underlying87, DataW.weightsEach]), key _ (by simp [DataW.weights, Tryz.underlying87, DataW.weightsEach])⟩
      refine ⟨by omega, fun hpos => ?_⟩
      obtain ⟨b, off, spot⟩ := a
      have hspot : spot = none := by
        obtain ⟨k, m, a', s, t, u, lp, ln, lc, d, hc, _⟩ := each 0 hpos
        have h1 := hc 0 (by omega)
        simpa [Addr.add] using World.cell?_spot h1
      subst hspot
      refine ⟨b, off, rfl, ?_, fun i hi => ?_⟩
      · obtain ⟨k, m, a', s, t, u, lp, ln, lc, d, hc, _⟩ := each 0 hpos
        have h1 : W.cell? (((⟨b, off, none⟩ : Addr).add (0 * 7)).add 0) = some (.int .i64 k) := hc 0 (by omega)
        have h2 := rowCellLt h1
        have e0 : (((⟨b, off, none⟩ : Addr).add (0 * 7)).add 0).block = b := by simp [Addr.add]
        rwa [e0] at h2
      · obtain ⟨k, m, a', s, t, u, lp, ln, lc, d, hc, hd⟩ := each i hi
        have e : ∀ j, ((⟨b, off, none⟩ : Addr).add (i * 7)).add j = ⟨b, off + i * 7 + j, none⟩ := by
          intro j
          rw [Go.WideShapes.add_plain, Go.WideShapes.add_plain]
        have hs := hstr _ _ _ _ _ _ _ hd
        simp only [reachBytes] at hs
        refine ⟨k, m, a', s.data.toList, t.data.toList, u.data.toList, lp, ln, lc, ?_, ?_, ?_, ?_, ?_, ?_, ?_, by omega, by omega⟩
        · have := hc 0 (by omega); rw [e] at this; exact this
        · have := hc 1 (by omega); rw [e] at this; exact this
        · have := hc 2 (by omega); rw [e] at this; exact this
        · have := hc 3 (by omega); rw [e] at this; rw [← arr_of]; exact this
        · have := hc 4 (by omega); rw [e] at this; rw [← arr_of]; exact this
        · have := hc 5 (by omega); rw [e] at this; rw [← arr_of]; exact this
        · have := hc 6 (by omega); rw [e] at this; exact this
  refine (hT sp n cap W E1 E2 E3 hcode.1 hcode.2).mono fun e W' ⟨he, hb⟩ => ?_
  subst he
  have a0 := Below.trod rowLaidOut (by kernel_rfl) (of_decide_eq_true (by kernel_rfl)) h0 hb (fun x hx => hlt x (by simpa using hx))
  exact ⟨_, rfl, hb.os, _, _, _, [], p, [], hW', trodAll_mk1 (shut_bool Tryz.underlying4 _), trodAll_mk1 a0, rfl, hb.frame _, fun h => by cases h⟩

end Go.Proofs.YthmhfilkgggagaaGreatDoor

/-
  valid.over, All, Check, Is.
  valid.All, Check, Is.
-/
import Derived.Test.YteecdmceleanjaaGreatDoorB15
import Derived.Test.YteecdmceleanjaaGreatDoorB10
namespace Go.Proofs.YteecdmceleanjaaGreatDoor
open Go.RowKit

/-- All faults, as pure data. -/
def allV (t : T) (d : D) : List Flt := if bothB t d = true then t.faults d [] else [([], 1)]
def gat0 (go : Bool) : Array Value := if go then #[.slice none 0 0] else #[.slice none 0 0, .int .i64 0]
def gatT (go : Bool) : TypeId := if go then 37 else 34
theorem gat_start (go : Bool) (base : Nat) {w : World} {c : Nat} (h : w.heap[c]? = some (.cells (gat0 go) (gatT go) (0, 0))) : Gat go base w c [] [] := by
  cases go
  · exact ⟨.slice none 0 0, h, World.ownsRow_nil _ _ _ _, rfl⟩
  · exact ⟨.slice none 0 0, [], [], h, World.ownsRow_nil _ _ _ _, ⟨rfl, rfl⟩, rfl, by simp⟩
theorem bothB_parts {t : T} {d : D} (h : bothB t d = true) : t.size ≤ 128 ∧ t.depth ≤ 12 ∧ allT t = true ∧ d.depth ≤ 12 ∧ d.size ≤ 512 ∧ partB d = true := by
  simp only [bothB, rightT, Bool.and_eq_true, decide_eq_true_eq] at h
  have h2 := okB_iff.1 h.2
  exact ⟨h.1.1, h.1.2.1, h.1.2.2, h2.1, by have := h2.2.1; omega, h2.2.2⟩
theorem blk_nil : blk (.slice none 0 0) = [] := rfl
set_option maxHeartbeats 4000000 in
set_option maxRecDepth 100000 in
theorem vover_any {go : Bool} {c B : Nat} {t : T} {d : D} {tv uv : Value} {w : World} (hs : t.size ≤ 10000) (hdp : t.depth ≤ 900) (hf : t.Fit) (hfd : d.Fit) (hBc : B ≤ c) (hc : c < w.heap.size) (htc : 1 < c) (htab : Lib.TabIs Tryz.prog w "internal/strconv.uint64pow10" .u64 Lib.pow10Tab)
    (hcell : w.heap[c]? = some (.cells (gat0 go) (gatT go) (0, 0))) (ht : TypeV w B t tv) (hd : DocV w B d uv) :
    Calls Tryz.prog 39 #[tv, uv, gatFn go c] w fun e w' => e = .returned (.tuple #[]) ∧ ∃ G, Gat go (w.heap.size + 3) w' c (gath go [] (allV t d)) G ∧ Turned w w' [] c := by
  obtain ⟨v0, v1, v2, v3, v4, v5, rfl, hti⟩ := ht
  obtain ⟨u0, u1, u2, u3, u4, rfl, hdi⟩ := hd
  have HF := Lib.hid hf; have HFD := Lib.hid hfd
  have hb1 : Below w.heap.size w (((w.alloc (.cells #[v0, v1, v2, v3, v4, v5] 26)).alloc (.cells #[u0, u1, u2, u3, u4] 29)).alloc (.cells #[gatFn go c] 62)) := (((Below.refl _ _).alloc (Nat.le_refl _) _).alloc (by simp) _).alloc (by simp; omega) _
  have HB1 := Lib.hid hb1
  have HT6 : Hid (Box6 (((w.alloc (.cells #[v0, v1, v2, v3, v4, v5] 26)).alloc (.cells #[u0, u1, u2, u3, u4] 29)).alloc (.cells #[gatFn go c] 62)) w.heap.size v0 v1 v2 v3 v4 v5) := ((Box6.new w _ _ _ _ _ _).alloc _).alloc _
  have HD5 : Hid (Box5 (((w.alloc (.cells #[v0, v1, v2, v3, v4, v5] 26)).alloc (.cells #[u0, u1, u2, u3, u4] 29)).alloc (.cells #[gatFn go c] 62)) (w.heap.size + 1) u0 u1 u2 u3 u4) := (Box5.new' (by simp) _ _ _ _ _).alloc _
  have HG : Hid ((((w.alloc (.cells #[v0, v1, v2, v3, v4, v5] 26)).alloc (.cells #[u0, u1, u2, u3, u4] 29)).alloc (.cells #[gatFn go c] 62)).cell? ⟨w.heap.size + 1 + 1, 0, none⟩ = some (gatFn go c)) := Lib.hid (cell_block (heap_alloc_new' (by simp) _) 0)
  have HTI := Lib.hid (hti.keep (Nat.le_refl B) fun q hq => hb1.cell (p := q) (by omega))
  have HDI := Lib.hid (hdi.keep (Nat.le_refl B) fun q hq => hb1.cell (p := q) (by omega))
  have HTAB := Lib.hid (tab_same htab (hb1.block _ (by omega)))
  have HC : Hid _ := Lib.hid ((hb1.block c hc).trans hcell)
  have hz : (((w.alloc (.cells #[v0, v1, v2, v3, v4, v5] 26)).alloc (.cells #[u0, u1, u2, u3, u4] 29)).alloc (.cells #[gatFn go c] 62)).heap.size = w.heap.size + 3 := by simp
  clear hb1 hti hdi htab hcell hf hfd
  go_enter Tryz.func39, Tryz.ntmps39
  go_wp2_with fail
  generalize (((w.alloc (.cells #[v0, v1, v2, v3, v4, v5] 26)).alloc (.cells #[u0, u1, u2, u3, u4] 29)).alloc (.cells #[gatFn go c] 62)) = w1 at *
  have HST1 : Hid (LookSt go (w.heap.size + 3) c (w.heap.size + 1 + 1) w1 w1 [] [] (.slice none 0 0) []) := Lib.hid ⟨⟨[], gat_start go _ HC.out, fun _ h => .inl h, fun _ h => by simp [blk_nil] at h⟩, World.ownsRow_nil _ _ _ _, ⟨rfl, rfl, rfl, Nat.le_refl _, fun _ _ _ _ => rfl⟩, fun _ h => by simp at h, by omega, by omega, by omega, by omega, htc, HG.out, HTAB.out⟩
  have hB1 : B ≤ w1.heap.size := by omega
  have HZ := Lib.hid hz
  clear hz
  refine (both_any hs hdp HF.out HFD.out hB1 ⟨_, _, _, _, _, _, rfl, HTI.out⟩ ⟨_, _, _, _, _, rfl, HDI.out⟩).mono ?_
  rintro e w2 ⟨rfl, hb2⟩
  have HB2 := Lib.hid hb2
  obtain ⟨G2, hst2, _, _, hback2⟩ := HST1.out.enter hb2
  have HST2 := Lib.hid hst2; have HBACK := Lib.hid hback2
  have hz1 := HZ.out
  have hz2 := hb2.size
  have HTI2 := Lib.hid (HTI.out.keep (Nat.le_refl B) fun q hq => hb2.cell (p := q) (by omega))
  have HDI2 := Lib.hid (HDI.out.keep (Nat.le_refl B) fun q hq => hb2.cell (p := q) (by omega))
  obtain ⟨x0, x1, x2, x3, x4, x5⟩ := (HT6.out.same (hb2.block _ (by omega))).cells
  obtain ⟨y0, y1, y2, y3, y4⟩ := (HD5.out.same (hb2.block _ (by omega))).cells
  have fin : ∀ w3 l', LookSt go (w.heap.size + 3) c (w.heap.size + 1 + 1) w2 w3 l' G2 (.slice none 0 0) [] → ∃ G, Gat go (w.heap.size + 3) w3 c l' G ∧ Turned w w3 [] c := fun w3 l' h => by
    have h1 := HBACK.out w3 l' h
    obtain ⟨G, g1, _, _⟩ := h1.ex
    exact ⟨G, g1, (Turned.of_below HB1.out [] c).trans ⟨h1.t.os, h1.t.tape, h1.t.output, h1.t.size, fun k hk hkG hkc => h1.t.block k hk (by simp [blk_nil]) hkc⟩⟩
  have FIN := Lib.hid fin
  clear hst2 hback2 hb2 fin hz1
  by_cases hr : bothB t d = true
  · have hp := bothB_parts hr
    have HR : Hid (allV t d = t.faults d []) := Lib.hid (by unfold allV; rw [if_pos hr])
    have hln : (t.faults d []).length ≤ 100000 := by
      have h1 := faults_le t.depth t d [] (Nat.le_refl _) hp.2.2.2.2.2
      have h2 : t.size * d.size ≤ 128 * 512 := Nat.mul_le_mul hp.1 hp.2.2.2.2.1
      omega
    have HLN := Lib.hid hln; have HP := Lib.hid hp
    rw [hr]
    clear hr hp hln
    go_wp2_with fail
    go_at_call 68
    refine (look_any go (w.heap.size + 3) c (w.heap.size + 1 + 1) B t.depth t d _ _ (.slice none 0 0) w2 [] G2 [] (Nat.le_refl _) HP.out.2.2.1 HF.out HFD.out HP.out.2.2.2.2.2 (.inr rfl) (by simpa using HLN.out) (by simp; omega) hBc ⟨_, _, _, _, _, _, rfl, HTI2.out⟩ ⟨_, _, _, _, _, rfl, HDI2.out⟩ HST2.out).mono ?_
    rintro e w3 ⟨rfl, hst3⟩
    have HST3 := Lib.hid hst3
    clear hst3 x0 x1 x2 x3 x4 x5 y0 y1 y2 y3 y4
    go_wp2_with fail
    refine ⟨rfl, .tuple #[], by simp [results, Tryz.f39], rfl, ?_⟩
    rw [HR.out]; exact FIN.out _ _ HST3.out
  · have HR : Hid (allV t d = [([], 1)]) := Lib.hid (by unfold allV; rw [if_neg hr])
    have hr' : bothB t d = false := by simpa using hr
    rw [hr']
    clear hr hr'
    go_wp2_with fail
    go_at_call 67
    refine (HST2.out.tell (.inr rfl) (by simp) (by simp)).mono ?_
    rintro e w3 ⟨rfl, hst3⟩
    have HST3 := Lib.hid hst3
    clear hst3 x0 x1 x2 x3 x4 x5 y0 y1 y2 y3 y4
    go_wp2_with fail
    refine ⟨rfl, .tuple #[], by simp [results, Tryz.f39], rfl, ?_⟩
    rw [HR.out]; exact FIN.out _ _ HST3.out
end Go.Proofs.YteecdmceleanjaaGreatDoor
namespace Go.Proofs.YteecdmceleanjaaGreatDoor
open Go.RowKit

theorem FltIn.base {w : World} {base base' : Nat} (hb : base' ≤ base) : ∀ {l : List Flt} {cs : List Value} {F : List Nat}, FltIn w base l cs F → FltIn w base' l cs F
  | [], _, _, h => h
  | f :: r, _, _, h => by
    simp only [FltIn] at h ⊢
    obtain ⟨v, cs', F', rfl, h1, h2, rfl⟩ := h
    exact ⟨v, cs', F', rfl, ownsRow_base h1 hb, h2.base hb, rfl⟩
/-- A row of faults of the call's own. -/
def MadeFlts (W0 : Nat) (w : World) (l : List Flt) (e : Ending) (w' : World) : Prop :=
  ∃ (v : Value) (cs : List Value) (F : List Nat), e = .returned v ∧ w'.ownsRow W0 34 2 v l.length cs ∧ FltIn w' W0 l cs F ∧ Below W0 w w'
set_option maxHeartbeats 4000000 in
set_option maxRecDepth 100000 in
theorem vall_any {B : Nat} {t : T} {d : D} {tv uv : Value} {w : World} (hs : t.size ≤ 10000) (hdp : t.depth ≤ 900) (hf : t.Fit) (hfd : d.Fit) (hB : B ≤ w.heap.size) (htc : 1 < w.heap.size) (htab : Lib.TabIs Tryz.prog w "internal/strconv.uint64pow10" .u64 Lib.pow10Tab)
    (ht : TypeV w B t tv) (hd : DocV w B d uv) :
    Calls Tryz.prog 14 #[tv, uv] w (MadeFlts w.heap.size w (allV t d)) := by
  obtain ⟨v0, v1, v2, v3, v4, v5, rfl, hti⟩ := ht
  obtain ⟨u0, u1, u2, u3, u4, rfl, hdi⟩ := hd
  have HF := Lib.hid hf; have HFD := Lib.hid hfd
  have hb1 : Below w.heap.size w (((w.alloc (.cells #[v0, v1, v2, v3, v4, v5] 26)).alloc (.cells #[u0, u1, u2, u3, u4] 29)).alloc (.cells #[.slice none 0 0] 37)) := (((Below.refl _ _).alloc (Nat.le_refl _) _).alloc (by simp) _).alloc (by simp; omega) _
  have HB1 := Lib.hid hb1
  have HC : Hid ((((w.alloc (.cells #[v0, v1, v2, v3, v4, v5] 26)).alloc (.cells #[u0, u1, u2, u3, u4] 29)).alloc (.cells #[.slice none 0 0] 37)).heap[w.heap.size + 1 + 1]? = some (.cells #[.slice none 0 0] 37 (0, 0))) := Lib.hid (heap_alloc_new' (by simp) _)
  have HTI := Lib.hid (hti.keep (Nat.le_refl B) fun q hq => hb1.cell (p := q) (by omega))
  have HDI := Lib.hid (hdi.keep (Nat.le_refl B) fun q hq => hb1.cell (p := q) (by omega))
  have HTAB := Lib.hid (tab_same htab (hb1.block _ (by omega)))
  have hz : (((w.alloc (.cells #[v0, v1, v2, v3, v4, v5] 26)).alloc (.cells #[u0, u1, u2, u3, u4] 29)).alloc (.cells #[.slice none 0 0] 37)).heap.size = w.heap.size + 3 := by simp
  clear hb1 hti hdi htab hf hfd
  go_enter Tryz.func14, Tryz.ntmps14
  go_wp2_with fail
  generalize (((w.alloc (.cells #[v0, v1, v2, v3, v4, v5] 26)).alloc (.cells #[u0, u1, u2, u3, u4] 29)).alloc (.cells #[.slice none 0 0] 37)) = w1 at *
  refine (vover_any (go := true) (c := w.heap.size + 1 + 1) hs hdp HF.out HFD.out (by omega) (by omega) (by omega) HTAB.out HC.out ⟨_, _, _, _, _, _, rfl, HTI.out⟩ ⟨_, _, _, _, _, rfl, HDI.out⟩).mono ?_
  rintro e w2 ⟨rfl, G, hg, ht⟩
  obtain ⟨v, cs, F, h0, h1, h2, _, _⟩ := AllSt.ex (show AllSt _ _ _ _ _ from hg)
  obtain ⟨A, cp, rfl⟩ := ownsRow_slice h1
  have c0 := cell_block h0 0
  simp at c0
  have H1 := Lib.hid h1; have H2 := Lib.hid h2; have HT := Lib.hid ht
  clear h0 h1 h2 hg ht
  go_wp2_with fail
  go_ret
  have hb : Below w.heap.size w w2 := HB1.out.trans (HT.out.below (by simp) (by omega) (by omega))
  exact ⟨_, cs, F, rfl, ownsRow_base H1.out (by omega), H2.out.base (by omega), hb⟩
/-- The first fault; no path, and 0, if there is none. -/
def firstV (t : T) (d : D) : Flt := (allV t d).headD ([], 0)
theorem ret_cell2 {P : Program} {fn : Func} {R : Ending → World → Prop} {a : Act} {w : World} {b : Nat} {t : Tmp} {v0 v1 : Value} {T : TypeId} (hres : fn.results = #[.cell t T]) (hslot : a.tmps.getD t undef = .pointer (some ⟨b, 0, none⟩))
    (hload : (loadVar T ⟨b, 0, none⟩).run P w = .ok (.agg #[v0, v1]) w) (hd : a.defers = []) (hR : R (.returned (.agg #[v0, v1])) w) : bodyPost P fn R .ret a w :=
  bodyPost_ret (v := .agg #[v0, v1]) (by rw [Array.getD_eq_getD_getElem?] at hslot; simp [results, hres, hslot, asAddr, hload]) hd hR
theorem load_two {w : World} {b : Nat} {v0 v1 : Value} (z0 : w.cell? ⟨b, 0, none⟩ = some v0) (z1 : w.cell? ⟨b, 1, none⟩ = some v1) : (loadVar 34 ⟨b, 0, none⟩).run Tryz.prog w = .ok (.agg #[v0, v1]) w := by
  simp [go_sem, z0, z1]
set_option maxHeartbeats 4000000 in
set_option maxRecDepth 100000 in
theorem check_any {B : Nat} {t : T} {d : D} {tv uv : Value} {w : World} (hs : t.size ≤ 10000) (hdp : t.depth ≤ 900) (hf : t.Fit) (hfd : d.Fit) (hB : B ≤ w.heap.size) (htc : 1 < w.heap.size) (htab : Lib.TabIs Tryz.prog w "internal/strconv.uint64pow10" .u64 Lib.pow10Tab)
    (ht : TypeV w B t tv) (hd : DocV w B d uv) :
    Calls Tryz.prog 11 #[tv, uv] w fun e w' => ∃ v, e = .returned (.agg #[v, .int .i64 (firstV t d).2]) ∧ w'.ownsRow w.heap.size 9 1 v (firstV t d).1.length ((firstV t d).1.map Value.string) ∧ Below w.heap.size w w' := by
  obtain ⟨v0, v1, v2, v3, v4, v5, rfl, hti⟩ := ht
  obtain ⟨u0, u1, u2, u3, u4, rfl, hdi⟩ := hd
  have HF := Lib.hid hf; have HFD := Lib.hid hfd
  have hb1 : Below w.heap.size w ((((w.alloc (.cells #[v0, v1, v2, v3, v4, v5] 26)).alloc (.cells #[u0, u1, u2, u3, u4] 29)).alloc (.cells #[.slice none 0 0, .int .i64 0] 34)).alloc (.cells #[.slice none 0 0, .int .i64 0] 34)) := ((((Below.refl _ _).alloc (Nat.le_refl _) _).alloc (by simp) _).alloc (by simp; omega) _).alloc (by simp; omega) _
  have HB1 := Lib.hid hb1
  have HC : Hid (((((w.alloc (.cells #[v0, v1, v2, v3, v4, v5] 26)).alloc (.cells #[u0, u1, u2, u3, u4] 29)).alloc (.cells #[.slice none 0 0, .int .i64 0] 34)).alloc (.cells #[.slice none 0 0, .int .i64 0] 34)).heap[w.heap.size + 1 + 1 + 1]? = some (.cells #[.slice none 0 0, .int .i64 0] 34 (0, 0))) := Lib.hid (heap_alloc_new' (by simp) _)
  have HR : Hid (((((w.alloc (.cells #[v0, v1, v2, v3, v4, v5] 26)).alloc (.cells #[u0, u1, u2, u3, u4] 29)).alloc (.cells #[.slice none 0 0, .int .i64 0] 34)).alloc (.cells #[.slice none 0 0, .int .i64 0] 34)).heap[w.heap.size + 1 + 1]? = some (.cells #[.slice none 0 0, .int .i64 0] 34 (0, 0))) := Lib.hid ((Below.heap_alloc _ _ _ (by simp)).trans (heap_alloc_new' (by simp) _))
  have HTI := Lib.hid (hti.keep (Nat.le_refl B) fun q hq => hb1.cell (p := q) (by omega))
  have HDI := Lib.hid (hdi.keep (Nat.le_refl B) fun q hq => hb1.cell (p := q) (by omega))
  have HTAB := Lib.hid (tab_same htab (hb1.block _ (by omega)))
  have hz : ((((w.alloc (.cells #[v0, v1, v2, v3, v4, v5] 26)).alloc (.cells #[u0, u1, u2, u3, u4] 29)).alloc (.cells #[.slice none 0 0, .int .i64 0] 34)).alloc (.cells #[.slice none 0 0, .int .i64 0] 34)).heap.size = w.heap.size + 4 := by simp
  clear hb1 hti hdi htab hf hfd
  go_enter Tryz.func11, Tryz.ntmps11
  go_wp2_with fail
  generalize ((((w.alloc (.cells #[v0, v1, v2, v3, v4, v5] 26)).alloc (.cells #[u0, u1, u2, u3, u4] 29)).alloc (.cells #[.slice none 0 0, .int .i64 0] 34)).alloc (.cells #[.slice none 0 0, .int .i64 0] 34)) = w1 at *
  refine (vover_any (go := false) (c := w.heap.size + 1 + 1 + 1) hs hdp HF.out HFD.out (by omega) (by omega) (by omega) HTAB.out HC.out ⟨_, _, _, _, _, _, rfl, HTI.out⟩ ⟨_, _, _, _, _, rfl, HDI.out⟩).mono ?_
  rintro e w2 ⟨rfl, G, hg, ht⟩
  have hfst : (gath false [] (allV t d)).headD ([], 0) = firstV t d := by
    unfold firstV gath
    cases allV t d <;> simp
  obtain ⟨v, h0, h1, _⟩ := ChkSt.ex (show ChkSt _ _ _ _ _ from hg)
  rw [hfst] at h0 h1
  obtain ⟨A, cp, rfl⟩ := ownsRow_slice h1
  have c0 := cell_block h0 0; have c1 := cell_block h0 1
  simp at c0 c1
  have hr2 := (ht.block (w.heap.size + 1 + 1) (by omega) (by simp) (by omega)).trans HR.out
  have r0 := cell_block hr2 0; have r1 := cell_block hr2 1
  have rf := free_block hr2
  have hrl := size_block hr2
  simp at r0 r1
  have H1 := Lib.hid h1; have HT := Lib.hid ht; have HR2 := Lib.hid hr2
  clear h0 h1 hg ht hr2 hfst
  obtain ⟨f, hfe⟩ : ∃ f, firstV t d = f := ⟨_, rfl⟩
  rw [hfe] at H1 c1
  have HFE := Lib.hid hfe
  clear hfe
  go_wp2_with fail
  rw [HFE.out]
  have hb2 : Below w.heap.size w w2 := HB1.out.trans (HT.out.below (by simp) (by omega) (by omega))
  have hfin : ((w2.setCell ⟨w.heap.size + 1 + 1, 0, none⟩ (.slice A f.1.length cp)).setCell ⟨w.heap.size + 1 + 1, 1, none⟩ (.int .i64 f.2)).heap[w.heap.size + 1 + 1]? = some (.cells #[.slice A f.1.length cp, .int .i64 f.2] 34 (0, 0)) := by
    simp [World.setCell, Array.getElem?_modify, HR2.out]
  have q0 := cell_block hfin 0; have q1 := cell_block hfin 1
  simp only [List.getElem?_toArray, List.getElem?_cons_zero, List.getElem?_cons_succ] at q0 q1
  refine ret_cell2 rfl rfl (load_two q0 q1) rfl ?_
  refine ⟨_, rfl, ownsRow_base (base := w1.heap.size + 3) (ownsRow_same H1.out fun k hk => ?_) (by omega), (hb2.setCell (by show w.heap.size ≤ w.heap.size + 1 + 1; omega) _).setCell (by show w.heap.size ≤ w.heap.size + 1 + 1; omega) _⟩
  have := (H1.out.lt k (blk_mem.1 hk)).1
  rw [Below.heap_setCell _ _ _ k (by show k ≠ w.heap.size + 1 + 1; omega), Below.heap_setCell _ _ _ k (by show k ≠ w.heap.size + 1 + 1; omega)]
theorem err_field (A : Option Addr) (m c : Nat) (n : Int) (w : World) : (Instr.field 34 (.agg #[.slice A m c, .int .i64 n]) 1).run Tryz.prog w = .ok (.int .i64 n) w := by kernel_rfl
/-- Whether it is of the type. -/
def isV (t : T) (d : D) : Bool := decide ((firstV t d).2 = 0)
set_option maxHeartbeats 4000000 in
set_option maxRecDepth 100000 in
theorem is_any {B : Nat} {t : T} {d : D} {tv uv : Value} {w : World} (hs : t.size ≤ 10000) (hdp : t.depth ≤ 900) (hf : t.Fit) (hfd : d.Fit) (hB : B ≤ w.heap.size) (htc : 1 < w.heap.size) (htab : Lib.TabIs Tryz.prog w "internal/strconv.uint64pow10" .u64 Lib.pow10Tab)
    (ht : TypeV w B t tv) (hd : DocV w B d uv) :
    Calls Tryz.prog 16 #[tv, uv] w fun e w' => e = .returned (.bool (isV t d)) ∧ Below w.heap.size w w' := by
  obtain ⟨v0, v1, v2, v3, v4, v5, rfl, ht⟩ := ht
  obtain ⟨u0, u1, u2, u3, u4, rfl, hd⟩ := hd
  have ST := Lib.hid (TD.start hB ht hd)
  have HF := Lib.hid hf; have HFD := Lib.hid hfd
  have HTAB := Lib.hid (tab_same (w' := (w.alloc (.cells #[v0, v1, v2, v3, v4, v5] 26)).alloc (.cells #[u0, u1, u2, u3, u4] 29)) htab ((Below.heap_alloc _ _ _ (by simp; omega)).trans (Below.heap_alloc _ _ _ htc)))
  clear ht hd hf hfd htab
  go_enter Tryz.func16, Tryz.ntmps16
  go_wp2_with fail
  generalize (w.alloc (.cells #[v0, v1, v2, v3, v4, v5] 26)).alloc (.cells #[u0, u1, u2, u3, u4] 29) = w1 at *
  refine (check_any hs hdp HF.out HFD.out ST.out.le (by have := ST.out.sz; omega) HTAB.out ST.out.tv ST.out.dv).mono ?_
  rintro e w2 ⟨v, rfl, hov, hb2⟩
  obtain ⟨A, cp, rfl⟩ := ownsRow_slice hov
  clear hov
  have HB2 := Lib.hid hb2
  have E : Hid (isV t d = decide ((firstV t d).2 = 0)) := Lib.hid rfl
  clear hb2
  obtain ⟨n, hn⟩ : ∃ n, (firstV t d).2 = n := ⟨_, rfl⟩
  rw [hn]
  rw [hn] at E
  clear hn
  have hfd := err_field A (firstV t d).1.length cp n
  go_wp2_with fail
  go_ret
  exact ⟨ret_bool (by rw [E.out]; rfl), ST.out.bl.trans (HB2.out.mono (by have := ST.out.sz; omega))⟩
end Go.Proofs.YteecdmceleanjaaGreatDoor

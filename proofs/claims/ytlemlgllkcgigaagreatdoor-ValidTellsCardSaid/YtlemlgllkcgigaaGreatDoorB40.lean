/-
  The document's own All, Check, Is, and Faults of two rows that are alike.
  What the laws of layer 5 share: the document and the type are small, the table stands, paths are short.
  What the cards of layer 5 share: what the row's list gives of the table of tens, and documents and types as the row reads them.
-/
import Derived.Test.YtlemlgllkcgigaaGreatDoorB34
import Derived.Test.YtlemlgllkcgigaaGreatDoorB39
import Derived.Test.YtlemlgllkcgigaaGreatDoorB08
import Derived.Test.YtlemlgllkcgigaaGreatDoorB20
import Derived.Test.YtlemlgllkcgigaaGreatDoorProg
import Derived.Deep.Slices
import Derived.Test.YtlemlgllkcgigaaGreatDoorB01
import Derived.ChangeMaps5
import Derived.Test.YtlemlgllkcgigaaGreatDoorB04
import Derived.LaidMore
import Derived.Deep.DeepHandedRow
import Derived.Test.YtlemlgllkcgigaaGreatDoorRows
import Derived.Stop.LaidErr
import Derived.MakeChecks
import Derived.Lib.LaidTab
namespace Go.Proofs.YtlemlgllkcgigaaGreatDoor
open Go.RowKit

set_option maxHeartbeats 4000000 in
set_option maxRecDepth 100000 in
theorem rallA_any {t : T} {d : D} {v u : Value} {w : World} {B : Nat} (hs : t.size ≤ 10000) (hdp : t.depth ≤ 900) (hf : t.Fit) (hfd : d.Fit) (hds : d.size ≤ 10000) (hdd : d.depth ≤ 10000) (hB : B ≤ w.heap.size) (ht : TypeV w B t v) (hd : DocV w B d u) :
    Calls Tryz.prog 15 #[v, u] w fun e w' => ∃ r, e = .returned r ∧ FltsV w' (fun k => w.heap.size ≤ k ∧ k < w'.heap.size) r (allV t d) ∧ Below w.heap.size w w' := by
  obtain ⟨v0, v1, v2, v3, v4, v5, rfl, ht⟩ := ht
  obtain ⟨u0, u1, u2, u3, u4, rfl, hd⟩ := hd
  have ST := Lib.hid (TD.start hB ht hd)
  have HF := Lib.hid hf; have HFD := Lib.hid hfd
  clear ht hd hf hfd
  go_enter Tryz.func15, Tryz.ntmps15
  go_wp2_with fail
  generalize (w.alloc (.cells #[v0, v1, v2, v3, v4, v5] 26)).alloc (.cells #[u0, u1, u2, u3, u4] 29) = w1 at *
  refine (rboth_any hs hdp HF.out HFD.out hds hdd ST.out.le ST.out.tv ST.out.dv).mono ?_
  rintro e w2 ⟨rfl, hb2⟩
  have ST2 := Lib.hid (ST.out.next (hb2.mono ST.out.sz))
  clear hb2
  obtain ⟨x0, x1, x2, x3, x4, x5⟩ := ST2.out.bt.cells
  obtain ⟨y0, y1, y2, y3, y4⟩ := ST2.out.bd.cells
  have sz2 := ST2.out.sz
  by_cases hr : bothB t d = true
  · have E2 : Hid (allV t d = t.faults d []) := Lib.hid (by unfold allV; rw [if_pos hr])
    have HR := Lib.hid (bothB_parts hr)
    have HLN := Lib.hid (faultsT_len hr [])
    rw [hr]
    clear hr
    go_wp2_with fail
    refine (rall_any 12 t d _ _ _ w2 B (fun _ => False) [] HR.out.2.1 HR.out.2.2.1 HF.out HFD.out HR.out.2.2.2.2.2 HR.out.2.2.2.2.1 HLN.out (by simp) ST2.out.le ST2.out.tv ST2.out.dv (strsS_nil _ _) (fun _ h => h.elim)).mono ?_
    rintro e w3 ⟨r, rfl, hr3, hb3⟩
    have HR3 := Lib.hid hr3
    clear hr3
    go_wp2_with fail
    go_ret
    exact ⟨_, rfl, by rw [E2.out]; exact (HR3.out.flts (fun _ h => h.elim)).keep (fun k hk => ⟨by omega, hk.2⟩) (fun _ _ => rfl), ST2.out.bl.trans (hb3.mono ST2.out.bl.size)⟩
  · have hr' : bothB t d = false := by simpa using hr
    have E2 : Hid (allV t d = [([], 1)]) := Lib.hid (by unfold allV; rw [if_neg hr])
    rw [hr']
    clear hr hr'
    go_wp2_with fail
    go_ret
    have hbl := ST2.out.bl.alloc (by omega : w.heap.size ≤ w2.heap.size) (.cells #[.slice none 0 0, .int .i64 1] 34)
    exact ⟨_, rfl, flts_one (p := []) (n := 1) ⟨by omega, by simp⟩ (strsS_nil _ _) (cell_block (heap_alloc_new w2 _) 0) (cell_block (heap_alloc_new w2 _) 1) E2.out, ST2.out.bl.alloc (by omega) _⟩
set_option maxHeartbeats 4000000 in
set_option maxRecDepth 100000 in
theorem risA_any {t : T} {d : D} {v u : Value} {w : World} {B : Nat} (hs : t.size ≤ 10000) (hdp : t.depth ≤ 900) (hf : t.Fit) (hfd : d.Fit) (hds : d.size ≤ 10000) (hdd : d.depth ≤ 10000) (hB : B ≤ w.heap.size) (ht : TypeV w B t v) (hd : DocV w B d u) :
    Calls Tryz.prog 17 #[v, u] w fun e w' => e = .returned (.bool (isV t d)) ∧ Below w.heap.size w w' := by
  obtain ⟨v0, v1, v2, v3, v4, v5, rfl, ht⟩ := ht
  obtain ⟨u0, u1, u2, u3, u4, rfl, hd⟩ := hd
  have ST := Lib.hid (TD.start hB ht hd)
  have HF := Lib.hid hf; have HFD := Lib.hid hfd
  clear ht hd hf hfd
  go_enter Tryz.func17, Tryz.ntmps17
  go_wp2_with fail
  generalize (w.alloc (.cells #[v0, v1, v2, v3, v4, v5] 26)).alloc (.cells #[u0, u1, u2, u3, u4] 29) = w1 at *
  refine (rallA_any hs hdp HF.out HFD.out hds hdd ST.out.le ST.out.tv ST.out.dv).mono ?_
  rintro e w2 ⟨r, rfl, hr, hb2⟩
  obtain ⟨A, c, rfl, _⟩ := hr.at_
  have HB2 := Lib.hid hb2
  clear hb2 hr
  obtain ⟨n, hn⟩ : ∃ n, (allV t d).length = n := ⟨_, rfl⟩
  have E : Hid (isV t d = decide (n = 0)) := Lib.hid (by rw [isV_len, hn])
  rw [hn]
  clear hn
  go_wp2_with fail
  go_ret
  exact ⟨ret_bool (by rw [E.out]; by_cases h : n = 0 <;> simp [h]), ST.out.bl.trans (HB2.out.mono (by have := ST.out.sz; omega))⟩
set_option maxHeartbeats 4000000 in
set_option maxRecDepth 100000 in
theorem rcheckA_any {t : T} {d : D} {v u : Value} {w : World} {B : Nat} (hs : t.size ≤ 10000) (hdp : t.depth ≤ 900) (hf : t.Fit) (hfd : d.Fit) (hds : d.size ≤ 10000) (hdd : d.depth ≤ 10000) (hB : B ≤ w.heap.size) (ht : TypeV w B t v) (hd : DocV w B d u) :
    Calls Tryz.prog 12 #[v, u] w fun e w' => ∃ r, e = .returned (.agg #[r, .int .i64 (firstV t d).2]) ∧ StrsS w' (fun k => w.heap.size ≤ k ∧ k < w'.heap.size) r (firstV t d).1 ∧ Below w.heap.size w w' := by
  obtain ⟨v0, v1, v2, v3, v4, v5, rfl, hti⟩ := ht
  obtain ⟨u0, u1, u2, u3, u4, rfl, hdi⟩ := hd
  have HF := Lib.hid hf; have HFD := Lib.hid hfd
  have hb1 : Below w.heap.size w (((w.alloc (.cells #[v0, v1, v2, v3, v4, v5] 26)).alloc (.cells #[u0, u1, u2, u3, u4] 29)).alloc (.cells #[.slice none 0 0, .int .i64 0] 34)) := (((Below.refl _ _).alloc (Nat.le_refl _) _).alloc (by simp) _).alloc (by simp; omega) _
  have HB1 := Lib.hid hb1
  have HR : Hid ((((w.alloc (.cells #[v0, v1, v2, v3, v4, v5] 26)).alloc (.cells #[u0, u1, u2, u3, u4] 29)).alloc (.cells #[.slice none 0 0, .int .i64 0] 34)).heap[w.heap.size + 1 + 1]? = some (.cells #[.slice none 0 0, .int .i64 0] 34 (0, 0))) := Lib.hid (heap_alloc_new' (by simp) _)
  have HTI := Lib.hid (hti.keep (Nat.le_refl B) fun q hq => hb1.cell (p := q) (by omega))
  have HDI := Lib.hid (hdi.keep (Nat.le_refl B) fun q hq => hb1.cell (p := q) (by omega))
  have hz : (((w.alloc (.cells #[v0, v1, v2, v3, v4, v5] 26)).alloc (.cells #[u0, u1, u2, u3, u4] 29)).alloc (.cells #[.slice none 0 0, .int .i64 0] 34)).heap.size = w.heap.size + 3 := by simp
  clear hb1 hti hdi hf hfd
  go_enter Tryz.func12, Tryz.ntmps12
  go_wp2_with fail
  generalize (((w.alloc (.cells #[v0, v1, v2, v3, v4, v5] 26)).alloc (.cells #[u0, u1, u2, u3, u4] 29)).alloc (.cells #[.slice none 0 0, .int .i64 0] 34)) = w1 at *
  have hz' : w.heap.size + 3 ≤ w1.heap.size := by omega
  clear hz
  refine (rallA_any hs hdp HF.out HFD.out hds hdd (by omega) ⟨_, _, _, _, _, _, rfl, HTI.out⟩ ⟨_, _, _, _, _, rfl, HDI.out⟩).mono ?_
  rintro e w2 ⟨r, rfl, hr, hb2⟩
  obtain ⟨A, c, rfl, hlc, hat⟩ := hr.at_
  have hr2 := (hb2.block (w.heap.size + 1 + 1) (by omega)).trans HR.out
  have r0 := cell_block hr2 0; have r1 := cell_block hr2 1
  have rf := free_block hr2
  have hrl := size_block hr2
  simp at r0 r1
  have HR2 := Lib.hid hr2; have HB2 := Lib.hid hb2
  have hz2 := hb2.size
  have HB : Hid (Below w.heap.size w w2) := Lib.hid (HB1.out.trans (hb2.mono (by omega)))
  clear hr hr2 hb2
  cases e : allV t d with
  | nil =>
    have E1 : Hid ((firstV t d).1 = []) := Lib.hid (by unfold firstV; rw [e]; rfl)
    have E2 : Hid ((firstV t d).2 = 0) := Lib.hid (by unfold firstV; rw [e]; rfl)
    rw [e] at hlc
    simp only [List.length_nil] at hlc ⊢
    clear hat e
    go_wp2_with fail
    have hfin : ((w2.setCell ⟨w.heap.size + 1 + 1, 0, none⟩ (.slice none 0 0)).setCell ⟨w.heap.size + 1 + 1, 1, none⟩ (.int .i64 0)).heap[w.heap.size + 1 + 1]? = some (.cells #[.slice none 0 0, .int .i64 0] 34 (0, 0)) := by
      simp [World.setCell, Array.getElem?_modify, HR2.out]
    have q0 := cell_block hfin 0; have q1 := cell_block hfin 1
    simp only [List.getElem?_toArray, List.getElem?_cons_zero, List.getElem?_cons_succ] at q0 q1
    refine ret_cell2 rfl rfl (load_two q0 q1) rfl ?_
    exact ⟨_, by rw [E2.out], by rw [E1.out]; exact strsS_nil _ _, (HB.out.setCell (by show w.heap.size ≤ w.heap.size + 1 + 1; omega) _).setCell (by show w.heap.size ≤ w.heap.size + 1 + 1; omega) _⟩
  | cons f l =>
    have E1 : Hid ((firstV t d).1 = f.1) := Lib.hid (by unfold firstV; rw [e]; rfl)
    have E2 : Hid ((firstV t d).2 = f.2) := Lib.hid (by unfold firstV; rw [e]; rfl)
    obtain ⟨b, off, x, rfl, hbS, g0, g1, hx⟩ := hat 0 (by rw [e]; simp)
    simp only [e, List.getElem_cons_zero, Nat.zero_mul, Nat.add_zero] at g0 g1 hx
    have hx2 := hx
    obtain ⟨Ax, cx, rfl, _, _⟩ := hx2
    have HX := Lib.hid hx
    obtain ⟨n, hn⟩ : ∃ n, (f :: l).length = n := ⟨_, rfl⟩
    have hn0 : 0 < n := by rw [← hn]; simp
    have hn1 : (0 : Int) < (n : Int) := by omega
    have hn2 : ¬ (n = 0) := by omega
    have hn3 : decide ((n : Int) = 0) = false := by simp; omega
    have hn4 : ((n : Int) == 0) = false := by simp; omega
    rw [e, hn] at hlc
    rw [hn]
    have hb2' : b < w2.heap.size := hbS.2
    clear hat e hx hn
    go_wp2_with fail
    have hfin : ((w2.setCell ⟨w.heap.size + 1 + 1, 0, none⟩ (.slice Ax f.1.length cx)).setCell ⟨w.heap.size + 1 + 1, 1, none⟩ (.int .i64 f.2)).heap[w.heap.size + 1 + 1]? = some (.cells #[.slice Ax f.1.length cx, .int .i64 f.2] 34 (0, 0)) := by
      simp [World.setCell, Array.getElem?_modify, HR2.out]
    have q0 := cell_block hfin 0; have q1 := cell_block hfin 1
    simp only [List.getElem?_toArray, List.getElem?_cons_zero, List.getElem?_cons_succ] at q0 q1
    refine ret_cell2 rfl rfl (load_two q0 q1) rfl ?_
    refine ⟨_, by rw [E2.out], ?_, (HB.out.setCell (by show w.heap.size ≤ w.heap.size + 1 + 1; omega) _).setCell (by show w.heap.size ≤ w.heap.size + 1 + 1; omega) _⟩
    rw [E1.out]
    refine HX.out.keep (fun k hk => ⟨by omega, by simpa [World.setCell] using hk.2⟩) fun p hp => ?_
    refine World.cell?_of_block ?_
    rw [Below.heap_setCell _ _ _ p.block (by show p.block ≠ w.heap.size + 1 + 1; omega), Below.heap_setCell _ _ _ p.block (by show p.block ≠ w.heap.size + 1 + 1; omega)]
set_option maxHeartbeats 4000000 in
set_option maxRecDepth 100000 in
theorem rfaults_same {l : List Flt} {v u : Value} {w : World} {S S' : Nat → Prop} (hS : ∀ k, S k → k < w.heap.size) (hS' : ∀ k, S' k → k < w.heap.size) (ha : FltsV w S v l) (hb : FltsV w S' u l) (hl : l.length ≤ 100000) (hp : ∀ f ∈ l, f.1.length ≤ 10000) :
    Calls Tryz.prog 13 #[v, u] w fun e w' => e = .returned (.bool true) ∧ Below w.heap.size w w' := by
  obtain ⟨A, c, rfl, hc, ha⟩ := ha.at_
  obtain ⟨A', c', rfl, hc', hb⟩ := hb.at_
  have HA := Lib.hid ha; have HB := Lib.hid hb; have HS := Lib.hid hS; have HS' := Lib.hid hS'; have HP := Lib.hid hp
  obtain ⟨n, hn⟩ : ∃ n, l.length = n := ⟨_, rfl⟩
  have HN := Lib.hid hn
  rw [hn] at hc hc' hl
  rw [hn]
  clear ha hb hS hS' hp hn
  have g : ((n : Int) != (n : Int)) = false := by simp
  go_enter Tryz.func13, Tryz.ntmps13
  go_wp2_with fail
  go_loopw [5] (fun i wr => ∃ k : Nat, k ≤ n ∧ i = .int .i64 k ∧ Below w.heap.size w wr) (fun i _ => n - (intOf i).toNat)
  case atStart => exact ⟨0, Nat.zero_le _, rfl, Below.refl _ _⟩
  case round =>
    obtain ⟨k, hk, rfl, hb⟩ := hrel
    have HBL := Lib.hid hb
    have hzr := hb.size
    clear hb
    by_cases hlt : k < n
    · obtain ⟨b, off, x, rfl, hbS, x0, x1, hx⟩ := HA.out k (by rw [HN.out]; exact hlt)
      obtain ⟨b', off', y, rfl, hbS', y0, y1, hy⟩ := HB.out k (by rw [HN.out]; exact hlt)
      obtain ⟨f, hfe⟩ : ∃ f, f = l[k]'(by rw [HN.out]; exact hlt) := ⟨_, rfl⟩
      rw [← hfe] at x1 hx y1 hy
      have hbl := HS.out b hbS; have hbl' := HS'.out b' hbS'
      have mv : ∀ q : Addr, q.block < w.heap.size → wr.cell? q = w.cell? q := fun q hq => HBL.out.cell hq
      have g0 := (mv ⟨b, off + k * 2, none⟩ hbl).trans x0; have g1 := (mv ⟨b, off + k * 2 + 1, none⟩ hbl).trans x1
      have h0 := (mv ⟨b', off' + k * 2, none⟩ hbl').trans y0; have h1 := (mv ⟨b', off' + k * 2 + 1, none⟩ hbl').trans y1
      have HX := Lib.hid ((hx.keep (w' := wr) (fun _ h => h) fun q hq => mv q (HS.out _ hq)).strsB (B := wr.heap.size) fun k hk => by have := HS.out k hk; omega)
      have HY := Lib.hid ((hy.keep (w' := wr) (fun _ h => h) fun q hq => mv q (HS'.out _ hq)).strsB (B := wr.heap.size) fun k hk => by have := HS'.out k hk; omega)
      have hpl : f.1.length ≤ 10000 := HP.out f (by rw [hfe]; exact List.getElem_mem _)
      obtain ⟨Ax, cx, ex, _⟩ := HX.out
      obtain ⟨Ay, cy, ey, _⟩ := HY.out
      have HRW : Hid (∀ X, Below wr.heap.size wr X → Calls Tryz.prog 37 #[x, y] X fun e w' => e = .returned (.bool true) ∧ Below X.heap.size X w') := Lib.hid (fun X hX => (rrows_any (B := wr.heap.size) hX.size (HX.out.keep fun q hq => hX.cell hq) (HY.out.keep fun q hq => hX.cell hq) hpl hpl).mono fun e w' h => ⟨by rw [h.1, decide_eq_true (rfl : f.1 = f.1)], h.2⟩)
      have hik0 : (0 : Int) ≤ (k : Int) := by omega
      have hik1 : (k : Int) < (n : Int) := by omega
      have ge : (f.2 != f.2) = false := by simp
      subst ex; subst ey
      have hblr : b < wr.heap.size := by omega
      have hblr' : b' < wr.heap.size := by omega
      have hS2 : ∀ X : World, Below wr.heap.size wr X → X.cell? ⟨b, off + k * 2, none⟩ = some (.slice Ax f.1.length cx) ∧ X.cell? ⟨b, off + k * 2 + 1, none⟩ = some (.int .i64 f.2) ∧ X.cell? ⟨b', off' + k * 2, none⟩ = some (.slice Ay f.1.length cy) ∧ X.cell? ⟨b', off' + k * 2 + 1, none⟩ = some (.int .i64 f.2) := fun X hX => ⟨(hX.cell (p := ⟨b, off + k * 2, none⟩) hblr).trans g0, (hX.cell (p := ⟨b, off + k * 2 + 1, none⟩) hblr).trans g1, (hX.cell (p := ⟨b', off' + k * 2, none⟩) hblr').trans h0, (hX.cell (p := ⟨b', off' + k * 2 + 1, none⟩) hblr').trans h1⟩
      have HS2 := Lib.hid hS2
      have HK0 : Hid (Below wr.heap.size wr wr.drew) := Lib.hid (Below.refl _ _).drew
      clear x0 x1 y0 y1 hx hy hfe hbS hbS' mv hS2 g0 g1 h0 h1
      go_wp2_with fail
      go_region_held3 (fun w' => w'.cell? ⟨b, off + k * 2, none⟩ = some (.slice Ax f.1.length cx) ∧ w'.cell? ⟨b, off + k * 2 + 1, none⟩ = some (.int .i64 f.2) ∧ w'.cell? ⟨b', off' + k * 2, none⟩ = some (.slice Ay f.1.length cy) ∧ w'.cell? ⟨b', off' + k * 2 + 1, none⟩ = some (.int .i64 f.2))
        (first | with_reducible exact HS2.out _ HK0.out | with_reducible exact HS2.out _ HK5.out)
        ((go_at_call 37
          refine (HRW.out _ HK0.out).mono ?_
          rintro e w5 ⟨rfl, hb5⟩
          have HK5 : Hid (Below wr.heap.size wr w5) := Lib.hid (HK0.out.trans (hb5.mono (by show wr.heap.size ≤ wr.heap.size; omega)))
          clear hb5))
      go_wp2_with fail
      go_roundw
      case rel => exact ⟨k + 1, by omega, by go_num, HBL.out.trans (HK5.out.mono hzr)⟩
      case measure => simp [intOf]; omega
    · go_wp2_with fail
      go_ret
      exact ⟨rfl, HBL.out⟩
end Go.Proofs.YtlemlgllkcgigaaGreatDoor
namespace Go.Proofs.YtlemlgllkcgigaaGreatDoor
open Go.RowKit

theorem faults_path (m : Nat) : ∀ (t : T) (d : D) (p : List ByteArray), t.depth ≤ m → ∀ f ∈ t.faults d p, f.1.length ≤ p.length + m := by
  induction m with
  | zero => intro t _ _ h; have := T.depth_pos t; omega
  | succ m ih =>
    intro t d p hm f hf
    rw [faults_eq, List.mem_append] at hf
    rcases hf with hf | hf
    · split at hf
      · cases hf
      · simp only [List.mem_singleton] at hf; subst hf; simp
    by_cases h7 : fitsV t d = 7
    · rw [if_pos h7] at hf; cases hf
    rw [if_neg h7] at hf
    by_cases hk : t.kind = 1
    · rw [if_pos hk, List.mem_append] at hf
      rcases hf with hf | hf
      · have hF : ∀ l : List F, (∀ f ∈ l, f.type.depth ≤ m) → ∀ f ∈ faultsF l d p, f.1.length ≤ p.length + (m + 1) := by
          intro l
          induction l with
          | nil => intro _ f hf; simp [faultsF] at hf
          | cons g r ihl =>
            intro hl f hf
            simp only [faultsF, List.mem_append] at hf
            rcases hf with hf | hf
            · rw [faultsF1_eq] at hf
              split at hf
              · have := ih _ _ _ (hl g (by simp)) f hf
                simp at this; omega
              · split at hf
                · cases hf
                · simp only [List.mem_singleton] at hf; subst hf; simp
            · exact ihl (fun g hg => hl g (by simp [hg])) f hf
        refine hF t.fields (fun f hf => ?_) f hf
        obtain ⟨i, hi, e⟩ := List.getElem_of_mem hf
        have := T.field_depth (t := t) (i := i) hi
        rw [e] at this; omega
      · obtain ⟨s, _, rfl⟩ := List.mem_map.1 hf; simp
    · rw [if_neg hk] at hf
      cases ho : t.of with
      | nil => rw [ho] at hf; simp [faultsO] at hf
      | cons x r =>
        have hxd : x.depth ≤ m := by have := T.of_depth (t := t) (i := 0) (by rw [ho]; simp); simp only [ho, List.getElem_cons_zero] at this; omega
        rw [ho] at hf
        simp only [faultsO, List.mem_flatten, List.mem_map] at hf
        obtain ⟨l, ⟨ki, _, rfl⟩, hf⟩ := hf
        have := ih x _ _ hxd f hf
        simp at this; omega
theorem allV_path (t : T) (d : D) : ∀ f ∈ allV t d, f.1.length ≤ 10000 := by
  unfold allV; split
  · rename_i h
    obtain ⟨_, h1, _⟩ := bothB_parts h
    intro f hf
    have := faults_path _ t d [] (Nat.le_refl _) f hf
    simp at this; omega
  · intro f hf; simp only [List.mem_singleton] at hf; subst hf; simp
theorem firstV_path (t : T) (d : D) : (firstV t d).1.length ≤ 10000 := by
  unfold firstV
  have h := allV_path t d
  cases e : allV t d with
  | nil => simp
  | cons f r => rw [e] at h; exact h f (by simp)
/-- The table of tens stands. -/
def Tab (w : World) : Prop := Lib.TabIs Tryz.prog w "internal/strconv.uint64pow10" .u64 Lib.pow10Tab ∧ 1 < w.heap.size
theorem Tab.next {w w' : World} (h : Tab w) (hb : Below w.heap.size w w') : Tab w' := ⟨tab_same h.1 (hb.block _ h.2), Nat.lt_of_lt_of_le h.2 hb.size⟩
noncomputable def fewV2 (t : T) (d : D) : Bool := t_fewB t && fewB d
set_option maxHeartbeats 4000000 in
set_option maxRecDepth 100000 in
theorem vfew_any {t : T} {d : D} {v u : Value} {w : World} {B : Nat} (hB : B ≤ w.heap.size) (ht : TypeV w B t v) (hd : DocV w B d u) :
    Calls Tryz.prog 10 #[v, u] w fun e w' => e = .returned (.bool (fewV2 t d)) ∧ Below w.heap.size w w' := by
  obtain ⟨v0, v1, v2, v3, v4, v5, rfl, ht⟩ := ht
  obtain ⟨u0, u1, u2, u3, u4, rfl, hd⟩ := hd
  have ST := Lib.hid (TD.start hB ht hd)
  have E : Hid (fewV2 t d = (t_fewB t && fewB d)) := Lib.hid rfl
  clear ht hd
  go_enter Tryz.func10, Tryz.ntmps10
  go_wp2_with fail
  generalize (w.alloc (.cells #[v0, v1, v2, v3, v4, v5] 26)).alloc (.cells #[u0, u1, u2, u3, u4] 29) = w1 at *
  refine (t_few_v ST.out.le ST.out.tv).mono ?_
  rintro e w2 ⟨rfl, hb2⟩
  have ST2 := Lib.hid (ST.out.next (hb2.mono ST.out.sz))
  clear hb2
  obtain ⟨x0, x1, x2, x3, x4, x5⟩ := ST2.out.bt.cells
  obtain ⟨y0, y1, y2, y3, y4⟩ := ST2.out.bd.cells
  have sz2 := ST2.out.sz
  generalize t_fewB t = p at *
  go_wp2_with fail
  refine (few_v ST2.out.le ST2.out.dv).mono ?_
  rintro e w3 ⟨rfl, hb3⟩
  have HB3 : Hid (Below w.heap.size w w3) := Lib.hid (ST2.out.bl.trans (hb3.mono ST2.out.bl.size))
  clear hb3
  generalize fewB d = q at *
  cases p
  · go_wp2_with fail
    go_ret
    exact ⟨ret_bool (by rw [E.out]; rfl), HB3.out⟩
  · go_wp2_with fail
    go_ret
    exact ⟨ret_bool (by rw [E.out]; rfl), HB3.out⟩
/-- What is small. -/
structure Small5 (t : T) (d : D) : Prop where
  tf : t.Fit
  ts : t.size ≤ 199
  td : t.depth ≤ 20
  df : d.Fit
  ds : d.size ≤ 699
  dd : d.depth ≤ 20
  d6 : d.Fit6
theorem small5_of {t : T} {d : D} (h : fewV2 t d = true) : Small5 t d := by
  unfold fewV2 at h
  rw [Bool.and_eq_true] at h
  have ho : okFew t 20 := by simpa [t_fewB] using h.1
  have hd : FewP d 20 := by simpa [fewB] using h.2
  exact ⟨fit_of_allP t ho.2.2, ho.2.1, ho.1, hd.fit.fit, hd.size, hd.depth, hd.fit⟩
end Go.Proofs.YtlemlgllkcgigaaGreatDoor
namespace Go.Proofs.YtlemlgllkcgigaaGreatDoor
open Go.RowKit Go.Deep

theorem cType : Tryz.prog.cellsOf 26 = 6 := by kernel_rfl
theorem cField : Tryz.prog.cellsOf 48 = 8 := by kernel_rfl
theorem t_cInt : Tryz.prog.cellsOf 3 = 1 := by kernel_rfl
theorem cBool : Tryz.prog.cellsOf 4 = 1 := by kernel_rfl
theorem t_cStr : Tryz.prog.cellsOf 9 = 1 := by kernel_rfl
theorem t_cStrs : Tryz.prog.cellsOf 22 = 1 := by kernel_rfl
theorem cTypes : Tryz.prog.cellsOf 24 = 1 := by kernel_rfl
theorem cFields : Tryz.prog.cellsOf 23 = 1 := by kernel_rfl

theorem t_cell_spot {w : World} {a : Addr} {v : Value} (h : w.cell? a = some v) : a = ⟨a.block, a.off, none⟩ ∧ a.block < w.heap.size := by
  obtain ⟨b, o, s⟩ := a
  unfold World.cell? at h
  split at h
  · rename_i hb
    cases s with
    | none => exact ⟨rfl, (Array.getElem?_eq_some_iff.1 hb).1⟩
    | some _ => simp at h
  · cases h
theorem t_add_none (b o i : Nat) : (Addr.mk b o none).add i = ⟨b, o + i, none⟩ := by
  unfold Addr.add
  split
  · rename_i h; subst h; rfl
  · rfl
theorem t_pick_list {α : Type} {p : Nat → α → Prop} : ∀ (n : Nat), (∀ i, i < n → ∃ x, p i x) → ∃ l : List α, l.length = n ∧ ∀ (i : Nat) (h : i < l.length), p i l[i]
  | 0, _ => ⟨[], rfl, fun i h => by simp at h⟩
  | n + 1, h => by
    obtain ⟨l, hl, hp⟩ := t_pick_list n fun i hi => h i (by omega)
    obtain ⟨x, hx⟩ := h n (by omega)
    refine ⟨l ++ [x], by simp [hl], fun i hi => ?_⟩
    rcases Nat.lt_or_ge i l.length with h' | h'
    · rw [List.getElem_append_left h']; exact hp i h'
    · have e : i = l.length := by simp at hi; omega
      subst e
      simpa [hl] using hx
theorem TypesIn.of_at {w : World} {B b off : Nat} : ∀ {l : List T} {i : Nat}, (∀ (k : Nat) (h : k < l.length),
    ∃ v0 v1 v2 v3 v4 v5 : Value, w.cell? ⟨b, off + (i + k) * 6, none⟩ = some v0 ∧ w.cell? ⟨b, off + (i + k) * 6 + 1, none⟩ = some v1 ∧ w.cell? ⟨b, off + (i + k) * 6 + 2, none⟩ = some v2 ∧ w.cell? ⟨b, off + (i + k) * 6 + 3, none⟩ = some v3 ∧ w.cell? ⟨b, off + (i + k) * 6 + 4, none⟩ = some v4 ∧ w.cell? ⟨b, off + (i + k) * 6 + 5, none⟩ = some v5 ∧ TypeIn w B (l[k]) v0 v1 v2 v3 v4 v5) → TypesIn w B b off i l
  | [], _, _ => by simp [TypesIn]
  | d :: r, i, h => by
    simp only [TypesIn]
    refine ⟨h 0 (by simp), TypesIn.of_at fun k hk => ?_⟩
    have := h (k + 1) (by simpa using hk)
    rw [show i + (k + 1) = i + 1 + k from by omega] at this
    simpa using this
theorem FieldsIn.of_at {w : World} {B b off : Nat} : ∀ {l : List F} {i : Nat}, (∀ (k : Nat) (h : k < l.length), FieldIn w B b (off + (i + k) * 8) (l[k])) → FieldsIn w B b off i l
  | [], _, _ => by simp [FieldsIn]
  | d :: r, i, h => by
    simp only [FieldsIn]
    refine ⟨h 0 (by simp), FieldsIn.of_at fun k hk => ?_⟩
    have := h (k + 1) (by simpa using hk)
    rw [show i + (k + 1) = i + 1 + k from by omega] at this
    simpa using this

section
variable {H : Type} {enc : TypeId × Value → H} {W : World} {base : Nat} {sp : Nat → Bool} {held : Bool}
theorem t_mapM_cells {a : Addr} {cs : List Value} {n : Nat} (h : W.cells? base a n = some cs) : cs.length = n ∧ ∀ i, i < n → W.cell? (a.add i) = cs[i]? := by
  unfold World.cells? at h
  split at h
  · have hl := mapM_some_length h
    refine ⟨by simpa using hl, fun i hi => ?_⟩
    have := mapM_some_get h i i (by simp [hi])
    exact this
  · cases h
theorem t_open_strs {fuel : Nat} {cs : List Value} {x : DataW H × List MemPlace} (h : DataW.trod enc Tryz.prog W base sp held fuel 22 cs = some x) :
    ∃ (v : Value) (xs : List ByteArray), cs = [v] ∧ Strs W W.heap.size v xs ∧ xs.length ≤ maxLen ∧ ∀ s ∈ xs, s.size ≤ maxLen := by
  rcases open_slice1 Tryz.underlying22 t_cStr h with ⟨rfl, _⟩ | ⟨a, len, cap, m, n, V, D, Pl, rfl, _, hl, hc, hm, _, hx⟩
  · exact ⟨_, [], rfl, ⟨none, 0, rfl, by simp, fun h => by simp at h⟩, by simp, by simp⟩
  · have hlm : len ≤ m := by rw [hm]; split <;> omega
    obtain ⟨xs, hxl, hxp⟩ := t_pick_list (p := fun i (s : ByteArray) => V i = .string s ∧ s.size ≤ maxLen) len fun i hi => by
      obtain ⟨s, e, _, hs⟩ := DataW.trod_string Tryz.underlying9 (hx i (by omega)).2
      exact ⟨s, by simpa using e, hs⟩
    refine ⟨_, xs, rfl, ⟨some a, cap, by rw [hxl], by omega, fun h0 => ?_⟩, by omega, fun s hs => ?_⟩
    · obtain ⟨h1, h2⟩ := t_cell_spot (hx 0 (by omega)).1
      rw [show a.add 0 = a from by simp [Addr.add]] at h1 h2
      refine ⟨a.block, a.off, by rw [← h1], h2, fun i hi => ?_⟩
      have h3 := (hx i (by omega)).1
      rw [h1, t_add_none] at h3
      rw [h3, (hxp i hi).1]
    · obtain ⟨i, hi, rfl⟩ := List.mem_iff_getElem.1 hs
      exact (hxp i hi).2
/-- What is read as a type. -/
def OkType (W : World) (cs : List Value) : Prop := ∃ (d : T) (v0 v1 v2 v3 v4 v5 : Value), cs = [v0, v1, v2, v3, v4, v5] ∧ TypeIn W W.heap.size d v0 v1 v2 v3 v4 v5
def OkField (W : World) (cs : List Value) : Prop := ∃ (d : T) (s : ByteArray) (o : Bool) (v0 v1 v2 v3 v4 v5 : Value), cs = [.string s, .bool o, v0, v1, v2, v3, v4, v5] ∧ TypeIn W W.heap.size d v0 v1 v2 v3 v4 v5
set_option maxRecDepth 100000 in
theorem open_field_step {fuel : Nat} (ih : ∀ n, n < fuel → ∀ (cs : List Value) (x : DataW H × List MemPlace), DataW.trod enc Tryz.prog W base sp held n 26 cs = some x → OkType W cs) {cs : List Value} {x : DataW H × List MemPlace} (h : DataW.trod enc Tryz.prog W base sp held fuel 48 cs = some x) : OkField W cs := by
  obtain ⟨xs, n, hn, _, hcl, hxl, hfd⟩ := DataW.trod_struct Tryz.underlying48 h
  rw [cField] at hcl
  match cs, hcl with
  | [u0, u1, v0, v1, v2, v3, v4, v5], _ =>
    match xs, hxl with
    | [y0, y1, y2], _ =>
      have h0 : DataW.trod enc Tryz.prog W base sp held n 9 [u0] = some y0 := by simpa [t_cStr] using hfd 0 _ rfl
      have h1 : DataW.trod enc Tryz.prog W base sp held n 4 [u1] = some y1 := by simpa [cBool] using hfd 1 _ rfl
      have h2 : DataW.trod enc Tryz.prog W base sp held n 26 [v0, v1, v2, v3, v4, v5] = some y2 := by simpa [cType] using hfd 2 _ rfl
      obtain ⟨s, e0, _, _⟩ := DataW.trod_string Tryz.underlying9 h0
      obtain ⟨o, e1, _⟩ := DataW.trod_bool Tryz.underlying4 h1
      simp only [List.cons.injEq, and_true] at e0 e1
      subst e0; subst e1
      obtain ⟨d, w0, w1, w2, w3, w4, w5, e, hd⟩ := ih n (by omega) _ _ h2
      simp only [List.cons.injEq, and_true] at e
      obtain ⟨rfl, rfl, rfl, rfl, rfl, rfl⟩ := e
      exact ⟨d, s, o, _, _, _, _, _, _, rfl, hd⟩
set_option maxRecDepth 100000 in
theorem open_types (N : Nat) : ∀ (fuel : Nat), fuel ≤ N → ∀ (cs : List Value) (x : DataW H × List MemPlace), DataW.trod enc Tryz.prog W base sp held fuel 26 cs = some x → OkType W cs := by
  induction N with
  | zero =>
    intro fuel hf cs x h
    obtain rfl : fuel = 0 := by omega
    simp [DataW.trod] at h
  | succ N ih =>
    intro fuel hf cs x h
    obtain ⟨xs, n, hn, _, hcl, hxl, hfd⟩ := DataW.trod_struct Tryz.underlying26 h
    rw [cType] at hcl
    match cs, hcl with
    | [v0, v1, v2, v3, v4, v5], _ =>
      match xs, hxl with
      | [y0, y1, y2, y3, y4, y5], _ =>
        have h0 : DataW.trod enc Tryz.prog W base sp held n 3 [v0] = some y0 := by simpa [t_cInt] using hfd 0 _ rfl
        have h1 : DataW.trod enc Tryz.prog W base sp held n 3 [v1] = some y1 := by simpa [t_cInt] using hfd 1 _ rfl
        have h2 : DataW.trod enc Tryz.prog W base sp held n 3 [v2] = some y2 := by simpa [t_cInt] using hfd 2 _ rfl
        have h3 : DataW.trod enc Tryz.prog W base sp held n 22 [v3] = some y3 := by simpa [t_cStrs] using hfd 3 _ rfl
        have h4 : DataW.trod enc Tryz.prog W base sp held n 23 [v4] = some y4 := by simpa [cFields] using hfd 4 _ rfl
        have h5 : DataW.trod enc Tryz.prog W base sp held n 24 [v5] = some y5 := by simpa [cTypes] using hfd 5 _ rfl
        obtain ⟨k, e0, _, _⟩ := DataW.trod_int Tryz.underlying3 h0
        obtain ⟨m, e1, _, _⟩ := DataW.trod_int Tryz.underlying3 h1
        obtain ⟨z, e2, _, _⟩ := DataW.trod_int Tryz.underlying3 h2
        obtain ⟨u3, ks, e3, hks, _, _⟩ := t_open_strs h3
        simp only [List.cons.injEq, and_true] at e0 e1 e2 e3
        subst e0; subst e1; subst e2; subst e3
        have hF : ∃ l : List F, FieldsV W W.heap.size v4 l := by
          rcases DataW.trod_slice Tryz.underlying23 h4 with ⟨e4, _⟩ | ⟨a, len, cap, elems, rest, n', hn', e4, _, _, hl, _, hlen, hel, _, _⟩
          · simp only [List.cons.injEq, and_true] at e4
            exact ⟨[], none, 0, by rw [e4]; rfl, by simp, fun h => absurd h (by simp)⟩
          · simp only [List.cons.injEq, and_true] at e4
            rw [cField] at hel
            have hget : ∀ i, i < len → ∃ (f : F), W.cell? ((a.add (i * 8)).add 0) = some (.string f.name) ∧ W.cell? ((a.add (i * 8)).add 1) = some (.bool f.opt) ∧ ∃ v0 v1 v2 v3 v4 v5 : Value, W.cell? ((a.add (i * 8)).add 2) = some v0 ∧ W.cell? ((a.add (i * 8)).add 3) = some v1 ∧ W.cell? ((a.add (i * 8)).add 4) = some v2 ∧ W.cell? ((a.add (i * 8)).add 5) = some v3 ∧ W.cell? ((a.add (i * 8)).add 6) = some v4 ∧ W.cell? ((a.add (i * 8)).add 7) = some v5 ∧ TypeIn W W.heap.size f.type v0 v1 v2 v3 v4 v5 := by
              intro i hi
              have h' := hel i hi
              rw [List.getElem?_eq_getElem (by omega)] at h'
              obtain ⟨cs', hc1, hc2⟩ := Option.bind_eq_some_iff.1 h'
              obtain ⟨d, s, o, w0, w1, w2, w3, w4, w5, rfl, hd⟩ := open_field_step (fun q hq => ih q (by omega)) hc2
              have hc := (t_mapM_cells hc1).2
              exact ⟨.mk s o d, hc 0 (by omega), hc 1 (by omega), w0, w1, w2, w3, w4, w5, hc 2 (by omega), hc 3 (by omega), hc 4 (by omega), hc 5 (by omega), hc 6 (by omega), hc 7 (by omega), hd⟩
            obtain ⟨l, hll, hlp⟩ := t_pick_list len hget
            refine ⟨l, some a, cap, by rw [e4, hll], by omega, fun h0 => ?_⟩
            obtain ⟨hz, _⟩ := hlp 0 h0
            obtain ⟨q1, q2⟩ := t_cell_spot hz
            rw [show (a.add (0 * 8)).add 0 = a from by simp [Addr.add]] at q1 q2
            refine ⟨a.block, a.off, by rw [← q1], q2, FieldsIn.of_at fun i hi => ?_⟩
            obtain ⟨c0, c1, w0, w1, w2, w3, w4, w5, c2, c3, c4, c5, c6, c7, hd⟩ := hlp i hi
            rw [q1, t_add_none, t_add_none] at c0 c1 c2 c3 c4 c5 c6 c7
            rw [Nat.zero_add]
            generalize hf : l[i] = f at c0 c1 hd ⊢
            obtain ⟨s, o, d⟩ := f
            simp only [FieldIn]
            exact ⟨c0, c1, w0, w1, w2, w3, w4, w5, c2, c3, c4, c5, c6, c7, hd⟩
        have hO : ∃ l : List T, TypesV W W.heap.size v5 l := by
          rcases DataW.trod_slice Tryz.underlying24 h5 with ⟨e4, _⟩ | ⟨a, len, cap, elems, rest, n', hn', e4, _, _, hl, _, hlen, hel, _, _⟩
          · simp only [List.cons.injEq, and_true] at e4
            exact ⟨[], none, 0, by rw [e4]; rfl, by simp, fun h => absurd h (by simp)⟩
          · simp only [List.cons.injEq, and_true] at e4
            rw [cType] at hel
            have hget : ∀ i, i < len → ∃ (d : T), ∃ v0 v1 v2 v3 v4 v5 : Value, W.cell? ((a.add (i * 6)).add 0) = some v0 ∧ W.cell? ((a.add (i * 6)).add 1) = some v1 ∧ W.cell? ((a.add (i * 6)).add 2) = some v2 ∧ W.cell? ((a.add (i * 6)).add 3) = some v3 ∧ W.cell? ((a.add (i * 6)).add 4) = some v4 ∧ W.cell? ((a.add (i * 6)).add 5) = some v5 ∧ TypeIn W W.heap.size d v0 v1 v2 v3 v4 v5 := by
              intro i hi
              have h' := hel i hi
              rw [List.getElem?_eq_getElem (by omega)] at h'
              obtain ⟨cs', hc1, hc2⟩ := Option.bind_eq_some_iff.1 h'
              obtain ⟨d, w0, w1, w2, w3, w4, w5, rfl, hd⟩ := ih n' (by omega) cs' _ hc2
              have hc := (t_mapM_cells hc1).2
              exact ⟨d, w0, w1, w2, w3, w4, w5, hc 0 (by omega), hc 1 (by omega), hc 2 (by omega), hc 3 (by omega), hc 4 (by omega), hc 5 (by omega), hd⟩
            obtain ⟨l, hll, hlp⟩ := t_pick_list len hget
            refine ⟨l, some a, cap, by rw [e4, hll], by omega, fun h0 => ?_⟩
            obtain ⟨_, _, _, _, _, _, hz, _⟩ := hlp 0 h0
            obtain ⟨q1, q2⟩ := t_cell_spot hz
            rw [show (a.add (0 * 6)).add 0 = a from by simp [Addr.add]] at q1 q2
            refine ⟨a.block, a.off, by rw [← q1], q2, TypesIn.of_at fun i hi => ?_⟩
            obtain ⟨w0, w1, w2, w3, w4, w5, c0, c1, c2, c3, c4, c5, hd⟩ := hlp i hi
            rw [q1, t_add_none, t_add_none] at c0 c1 c2 c3 c4 c5
            rw [Nat.zero_add]
            exact ⟨w0, w1, w2, w3, w4, w5, c0, c1, c2, c3, c4, c5, hd⟩
        obtain ⟨lf, hlf⟩ := hF
        obtain ⟨lo, hlo⟩ := hO
        exact ⟨.mk k m z ks lf lo, _, _, _, _, _, _, rfl, TypeIn.mk_ (d := .mk k m z ks lf lo) hks hlf hlo⟩
theorem open_type {v : Value} {d : DataW H} {p : List MemPlace} (h : DataW.Trod enc Tryz.prog W base sp held 26 v d p) (hv : ∃ cs, v = .agg cs) :
    ∃ (t : T), TypeV W W.heap.size t v := by
  obtain ⟨fuel, hx⟩ := h
  obtain ⟨cs, rfl⟩ := hv
  obtain ⟨d, v0, v1, v2, v3, v4, v5, e, hd⟩ := open_types fuel fuel (Nat.le_refl _) _ _ hx
  refine ⟨d, v0, v1, v2, v3, v4, v5, ?_, hd⟩
  have : cs.toList = [v0, v1, v2, v3, v4, v5] := e
  obtain ⟨l⟩ := cs
  simp only at this
  rw [this]
end
end Go.Proofs.YtlemlgllkcgigaaGreatDoor

namespace Go.Proofs.YtlemlgllkcgigaaGreatDoor
open Go.RowKit Go.Deep

theorem cDoc : Tryz.prog.cellsOf 29 = 5 := by kernel_rfl
theorem cInt : Tryz.prog.cellsOf 3 = 1 := by kernel_rfl
theorem cStr : Tryz.prog.cellsOf 9 = 1 := by kernel_rfl
theorem cStrs : Tryz.prog.cellsOf 22 = 1 := by kernel_rfl
theorem cDocs : Tryz.prog.cellsOf 27 = 1 := by kernel_rfl

theorem cell_spot {w : World} {a : Addr} {v : Value} (h : w.cell? a = some v) : a = ⟨a.block, a.off, none⟩ ∧ a.block < w.heap.size := by
  obtain ⟨b, o, s⟩ := a
  unfold World.cell? at h
  split at h
  · rename_i hb
    cases s with
    | none => exact ⟨rfl, (Array.getElem?_eq_some_iff.1 hb).1⟩
    | some _ => simp at h
  · cases h
theorem add_none (b o i : Nat) : (Addr.mk b o none).add i = ⟨b, o + i, none⟩ := by
  unfold Addr.add
  split
  · rename_i h; subst h; rfl
  · rfl
theorem pick_list {α : Type} {p : Nat → α → Prop} : ∀ (n : Nat), (∀ i, i < n → ∃ x, p i x) → ∃ l : List α, l.length = n ∧ ∀ (i : Nat) (h : i < l.length), p i l[i]
  | 0, _ => ⟨[], rfl, fun i h => by simp at h⟩
  | n + 1, h => by
    obtain ⟨l, hl, hp⟩ := pick_list n fun i hi => h i (by omega)
    obtain ⟨x, hx⟩ := h n (by omega)
    refine ⟨l ++ [x], by simp [hl], fun i hi => ?_⟩
    rcases Nat.lt_or_ge i l.length with h' | h'
    · rw [List.getElem_append_left h']; exact hp i h'
    · have e : i = l.length := by simp at hi; omega
      subst e
      simpa [hl] using hx
theorem KidsIn.of_at {w : World} {B b off : Nat} : ∀ {l : List D} {i : Nat}, (∀ (k : Nat) (h : k < l.length),
    ∃ v0 v1 v2 v3 v4 : Value, w.cell? ⟨b, off + (i + k) * 5, none⟩ = some v0 ∧ w.cell? ⟨b, off + (i + k) * 5 + 1, none⟩ = some v1 ∧ w.cell? ⟨b, off + (i + k) * 5 + 2, none⟩ = some v2 ∧ w.cell? ⟨b, off + (i + k) * 5 + 3, none⟩ = some v3 ∧ w.cell? ⟨b, off + (i + k) * 5 + 4, none⟩ = some v4 ∧ DocIn w B (l[k]) v0 v1 v2 v3 v4) → KidsIn w B b off i l
  | [], _, _ => by simp [KidsIn]
  | d :: r, i, h => by
    simp only [KidsIn]
    refine ⟨h 0 (by simp), KidsIn.of_at fun k hk => ?_⟩
    have := h (k + 1) (by simpa using hk)
    rw [show i + (k + 1) = i + 1 + k from by omega] at this
    simpa using this

section
variable {H : Type} {enc : TypeId × Value → H} {W : World} {base : Nat} {sp : Nat → Bool} {held : Bool}
theorem mapM_cells {a : Addr} {cs : List Value} {n : Nat} (h : W.cells? base a n = some cs) : cs.length = n ∧ ∀ i, i < n → W.cell? (a.add i) = cs[i]? := by
  unfold World.cells? at h
  split at h
  · have hl := mapM_some_length h
    refine ⟨by simpa using hl, fun i hi => ?_⟩
    have := mapM_some_get h i i (by simp [hi])
    exact this
  · cases h
theorem open_strs {fuel : Nat} {cs : List Value} {x : DataW H × List MemPlace} (h : DataW.trod enc Tryz.prog W base sp held fuel 22 cs = some x) :
    ∃ (v : Value) (xs : List ByteArray), cs = [v] ∧ Strs W W.heap.size v xs ∧ xs.length ≤ maxLen ∧ ∀ s ∈ xs, s.size ≤ maxLen := by
  rcases open_slice1 Tryz.underlying22 cStr h with ⟨rfl, _⟩ | ⟨a, len, cap, m, n, V, D, Pl, rfl, _, hl, hc, hm, _, hx⟩
  · exact ⟨_, [], rfl, ⟨none, 0, rfl, by simp, fun h => by simp at h⟩, by simp, by simp⟩
  · have hlm : len ≤ m := by rw [hm]; split <;> omega
    obtain ⟨xs, hxl, hxp⟩ := pick_list (p := fun i (s : ByteArray) => V i = .string s ∧ s.size ≤ maxLen) len fun i hi => by
      obtain ⟨s, e, _, hs⟩ := DataW.trod_string Tryz.underlying9 (hx i (by omega)).2
      exact ⟨s, by simpa using e, hs⟩
    refine ⟨_, xs, rfl, ⟨some a, cap, by rw [hxl], by omega, fun h0 => ?_⟩, by omega, fun s hs => ?_⟩
    · obtain ⟨h1, h2⟩ := cell_spot (hx 0 (by omega)).1
      rw [show a.add 0 = a from by simp [Addr.add]] at h1 h2
      refine ⟨a.block, a.off, by rw [← h1], h2, fun i hi => ?_⟩
      have h3 := (hx i (by omega)).1
      rw [h1, add_none] at h3
      rw [h3, (hxp i hi).1]
    · obtain ⟨i, hi, rfl⟩ := List.mem_iff_getElem.1 hs
      exact (hxp i hi).2
set_option maxRecDepth 100000 in
theorem open_docs (N : Nat) : ∀ (fuel : Nat), fuel ≤ N → ∀ (cs : List Value) (x : DataW H × List MemPlace), DataW.trod enc Tryz.prog W base sp held fuel 29 cs = some x →
    ∃ (d : D) (v0 v1 v2 v3 v4 : Value), cs = [v0, v1, v2, v3, v4] ∧ DocIn W W.heap.size d v0 v1 v2 v3 v4 := by
  induction N with
  | zero =>
    intro fuel hf cs x h
    obtain rfl : fuel = 0 := by omega
    simp [DataW.trod] at h
  | succ N ih =>
    intro fuel hf cs x h
    obtain ⟨xs, n, hn, _, hcl, hxl, hfd⟩ := DataW.trod_struct Tryz.underlying29 h
    rw [cDoc] at hcl
    match cs, hcl with
    | [v0, v1, v2, v3, v4], _ =>
      match xs, hxl with
      | [y0, y1, y2, y3, y4], _ =>
        have h0 : DataW.trod enc Tryz.prog W base sp held n 3 [v0] = some y0 := by simpa [cInt] using hfd 0 _ rfl
        have h1 : DataW.trod enc Tryz.prog W base sp held n 3 [v1] = some y1 := by simpa [cInt] using hfd 1 _ rfl
        have h2 : DataW.trod enc Tryz.prog W base sp held n 9 [v2] = some y2 := by simpa [cStr] using hfd 2 _ rfl
        have h3 : DataW.trod enc Tryz.prog W base sp held n 22 [v3] = some y3 := by simpa [cStrs] using hfd 3 _ rfl
        have h4 : DataW.trod enc Tryz.prog W base sp held n 27 [v4] = some y4 := by simpa [cDocs] using hfd 4 _ rfl
        obtain ⟨k, e0, _, _⟩ := DataW.trod_int Tryz.underlying3 h0
        obtain ⟨m, e1, _, _⟩ := DataW.trod_int Tryz.underlying3 h1
        obtain ⟨s, e2, _, _⟩ := DataW.trod_string Tryz.underlying9 h2
        obtain ⟨u3, ks, e3, hks, _, _⟩ := open_strs h3
        simp only [List.cons.injEq, and_true] at e0 e1 e2 e3
        subst e0; subst e1; subst e2; subst e3
        rcases DataW.trod_slice Tryz.underlying27 h4 with ⟨e4, _⟩ | ⟨a, len, cap, elems, rest, n', hn', e4, _, _, hl, _, hlen, hel, _, _⟩
        · simp only [List.cons.injEq, and_true] at e4
          subst e4
          refine ⟨.mk k m s ks [], _, _, _, _, _, rfl, ?_⟩
          simp only [DocIn]
          exact ⟨trivial, trivial, trivial, hks, none, 0, rfl, by simp, fun h => by simp at h⟩
        · simp only [List.cons.injEq, and_true] at e4
          subst e4
          rw [cDoc] at hel
          have hget : ∀ i, i < len → ∃ (d : D), ∃ v0 v1 v2 v3 v4 : Value, W.cell? ((a.add (i * 5)).add 0) = some v0 ∧ W.cell? ((a.add (i * 5)).add 1) = some v1 ∧ W.cell? ((a.add (i * 5)).add 2) = some v2 ∧ W.cell? ((a.add (i * 5)).add 3) = some v3 ∧ W.cell? ((a.add (i * 5)).add 4) = some v4 ∧ DocIn W W.heap.size d v0 v1 v2 v3 v4 := by
            intro i hi
            have h' := hel i hi
            rw [List.getElem?_eq_getElem (by omega)] at h'
            obtain ⟨cs', hc1, hc2⟩ := Option.bind_eq_some_iff.1 h'
            obtain ⟨d, w0, w1, w2, w3, w4, rfl, hd⟩ := ih n' (by omega) cs' _ hc2
            have hc := (mapM_cells hc1).2
            exact ⟨d, w0, w1, w2, w3, w4, hc 0 (by omega), hc 1 (by omega), hc 2 (by omega), hc 3 (by omega), hc 4 (by omega), hd⟩
          obtain ⟨l, hll, hlp⟩ := pick_list len hget
          refine ⟨.mk k m s ks l, _, _, _, _, _, rfl, ?_⟩
          simp only [DocIn]
          refine ⟨trivial, trivial, trivial, hks, some a, cap, by rw [hll], by omega, fun h0 => ?_⟩
          obtain ⟨_, _, _, _, _, hz, _⟩ := hlp 0 h0
          obtain ⟨q1, q2⟩ := cell_spot hz
          rw [show (a.add (0 * 5)).add 0 = a from by simp [Addr.add]] at q1 q2
          refine ⟨a.block, a.off, by rw [← q1], q2, KidsIn.of_at fun i hi => ?_⟩
          obtain ⟨w0, w1, w2, w3, w4, c0, c1, c2, c3, c4, hd⟩ := hlp i hi
          rw [q1, add_none, add_none] at c0 c1 c2 c3 c4
          rw [Nat.zero_add]
          exact ⟨w0, w1, w2, w3, w4, c0, c1, c2, c3, c4, hd⟩
theorem open_doc {v : Value} {d : DataW H} {p : List MemPlace} (h : DataW.Trod enc Tryz.prog W base sp held 29 v d p) (hv : ∃ cs, v = .agg cs) :
    ∃ (d : D) (v0 v1 v2 v3 v4 : Value), v = .agg #[v0, v1, v2, v3, v4] ∧ DocIn W W.heap.size d v0 v1 v2 v3 v4 := by
  obtain ⟨fuel, hx⟩ := h
  obtain ⟨cs, rfl⟩ := hv
  obtain ⟨d, v0, v1, v2, v3, v4, e, hd⟩ := open_docs fuel fuel (Nat.le_refl _) _ _ hx
  refine ⟨d, v0, v1, v2, v3, v4, ?_, hd⟩
  have : cs.toList = [v0, v1, v2, v3, v4] := e
  obtain ⟨l⟩ := cs
  simp only at this
  rw [this]
end
end Go.Proofs.YtlemlgllkcgigaaGreatDoor

namespace Go.Proofs.YtlemlgllkcgigaaGreatDoor
open Go.ChangeShapes Go.WideShapes Go.ChangeAt Go.RowKit
set_option maxRecDepth 100000 in
theorem agg_of_type {W : World} {b0 : Nat} {v : Value} (h : Value.okWide Tryz.prog W .any b0 26 v) : ∃ cs, v = .agg cs := by
  unfold Value.okWide at h
  rw [Tryz.underlying26] at h
  obtain ⟨cs, h, _⟩ := h
  exact ⟨cs, h⟩
set_option maxRecDepth 100000 in
theorem agg_of_field {W : World} {b0 : Nat} {v : Value} (h : Value.okWide Tryz.prog W .any b0 48 v) : ∃ cs, v = .agg cs := by
  unfold Value.okWide at h
  rw [Tryz.underlying48] at h
  obtain ⟨cs, h, _⟩ := h
  exact ⟨cs, h⟩
section
variable {H : Type} {enc : TypeId × Value → H} {W : World} {base : Nat} {sp : Nat → Bool} {held : Bool}
/-- A list of strings as the row reads it. -/
theorem open_way {v : Value} {d : DataW H} {p : List MemPlace} (h : DataW.Trod enc Tryz.prog W base sp held 22 v d p) (hv : ∃ a len cap, v = .slice a len cap) :
    ∃ (A : Option Addr) (xs : List ByteArray) (c : Nat), v = .slice A xs.length c ∧ Strs W W.heap.size (.slice A xs.length c) xs := by
  obtain ⟨fuel, h⟩ := h
  obtain ⟨a0, l0, c0, rfl⟩ := hv
  obtain ⟨v, xs, e, hs, _, _⟩ := t_open_strs (show DataW.trod enc Tryz.prog W base sp held fuel 22 [.slice a0 l0 c0] = some (d, p) from h)
  simp only [List.cons.injEq, and_true] at e
  subst e
  obtain ⟨A, c, e, hc, hk⟩ := hs
  injection e with e1 e2 e3
  subst e1; subst e2; subst e3
  exact ⟨_, xs, _, rfl, _, _, rfl, hc, hk⟩
end
end Go.Proofs.YtlemlgllkcgigaaGreatDoor

namespace Go.Proofs.YtlemlgllkcgigaaGreatDoor
open Go.RowKit Go.ChangeShapes Go.WideShapes Go.ChangeAt
def laidL : List (String × DataW Unit) := [("math/bits.deBruijn32tab", Rows.laid_math_bits_deBruijn32tab), ("math/bits.deBruijn64tab", Rows.laid_math_bits_deBruijn64tab), ("internal/strconv.uint64pow10", Rows.laid_internal_strconv_uint64pow10), ("strconv.ErrRange", Rows.laid_strconv_ErrRange), ("strconv.ErrSyntax", Rows.laid_strconv_ErrSyntax)]
theorem gTab5 : Tryz.prog.globalNamed "internal/strconv.uint64pow10" = some 1 := by kernel_rfl
def laid3 : List (String × DataW Unit) := [("math/bits.deBruijn32tab", Rows.laid_math_bits_deBruijn32tab), ("math/bits.deBruijn64tab", Rows.laid_math_bits_deBruijn64tab), ("internal/strconv.uint64pow10", Rows.laid_internal_strconv_uint64pow10)]
theorem tab_of_laid {W : World} (h : laidMetH Tryz.prog laidL W) : Tab W := by
  rw [MakeChecks.laidMetH_plain _ _ _ (by kernel_rfl)] at h
  refine ⟨Lib.tabIs_of_head (n := 20) (t := 155) (e := 139) gTab5 (by kernel_rfl) Tryz.underlying155 Tryz.underlying139 (by kernel_rfl) (by kernel_rfl) h.tail.tail, ?_⟩
  obtain ⟨ps, ⟨g', t', cs, fuel, p, q, hg', ht', hvar, hd, _, _⟩, _⟩ := h.tail.tail
  obtain rfl := Option.some.inj (gTab5.symm.trans hg')
  rcases Nat.lt_or_ge 1 W.heap.size with h' | h'
  · exact h'
  · exfalso
    have e := hvar
    simp only [World.var?, gTab5, Option.bind_some, Array.getElem?_eq_none h'] at e
    cases e
theorem tab_of_laid3 {W : World} (h : laidMetH Tryz.prog laid3 W) : Tab W := by
  rw [MakeChecks.laidMetH_plain _ _ _ (by kernel_rfl)] at h
  refine ⟨Lib.tabIs_of_head (n := 20) (t := 155) (e := 139) gTab5 (by kernel_rfl) Tryz.underlying155 Tryz.underlying139 (by kernel_rfl) (by kernel_rfl) h.tail.tail, ?_⟩
  obtain ⟨ps, ⟨g', t', cs, fuel, p, q, hg', ht', hvar, hd, _, _⟩, _⟩ := h.tail.tail
  obtain rfl := Option.some.inj (gTab5.symm.trans hg')
  rcases Nat.lt_or_ge 1 W.heap.size with h' | h'
  · exact h'
  · exfalso
    have e := hvar
    simp only [World.var?, gTab5, Option.bind_some, Array.getElem?_eq_none h'] at e
    cases e
set_option maxRecDepth 100000 in
theorem agg_of_doc {W : World} {b0 : Nat} {v : Value} (h : Value.okWide Tryz.prog W .any b0 29 v) : ∃ cs, v = .agg cs := by
  unfold Value.okWide at h
  rw [Tryz.underlying29] at h
  obtain ⟨cs, h, _⟩ := h
  exact ⟨cs, h⟩
end Go.Proofs.YtlemlgllkcgigaaGreatDoor
